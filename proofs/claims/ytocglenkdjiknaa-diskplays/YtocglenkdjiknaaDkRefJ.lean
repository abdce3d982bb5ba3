/- The reference: Do. -/
import Derived.Test.YtocglenkdjiknaaDkRefH
namespace Go.Proofs.Ytocglenkdjiknaa
section
set_option linter.unusedVariables false
set_option linter.unusedSimpArgs false
open Go.RowKit
set_option linter.unusedSectionVars false
variable {sp : Sep}


/-- Seven cells of a block are stored. -/
def sets7 (w : World) (g : Nat) (v0 v1 v2 v3 v4 v5 v6 : Value) : World := ((((((w.setCell ⟨g, 0, none⟩ v0).setCell ⟨g, 1, none⟩ v1).setCell ⟨g, 2, none⟩ v2).setCell ⟨g, 3, none⟩ v3).setCell ⟨g, 4, none⟩ v4).setCell ⟨g, 5, none⟩ v5).setCell ⟨g, 6, none⟩ v6
theorem sets7_at {w : World} {g : Nat} {x0 x1 x2 x3 x4 x5 x6 : Value} {t : TypeId} (h : w.heap[g]? = some (.cells #[x0, x1, x2, x3, x4, x5, x6] t (0, 0))) (v0 v1 v2 v3 v4 v5 v6 : Value) : (sets7 w g v0 v1 v2 v3 v4 v5 v6).heap[g]? = some (.cells #[v0, v1, v2, v3, v4, v5, v6] t (0, 0)) := by
  unfold sets7
  rw [set_blk (i := 6) _ (set_blk (i := 5) _ (set_blk (i := 4) _ (set_blk (i := 3) _ (set_blk (i := 2) _ (set_blk (i := 1) _ (set_blk (i := 0) _ h))))))]
  simp
theorem sets7_far (w : World) (g : Nat) (v0 v1 v2 v3 v4 v5 v6 : Value) (j : Nat) (hj : j ≠ g) : (sets7 w g v0 v1 v2 v3 v4 v5 v6).heap[j]? = w.heap[j]? := by
  unfold sets7
  rw [Below.heap_setCell _ _ _ _ hj, Below.heap_setCell _ _ _ _ hj, Below.heap_setCell _ _ _ _ hj, Below.heap_setCell _ _ _ _ hj, Below.heap_setCell _ _ _ _ hj, Below.heap_setCell _ _ _ _ hj, Below.heap_setCell _ _ _ _ hj]
theorem sets7_below {w0 w : World} (h : Below w0.heap.size w0 w) {g : Nat} (hg : w0.heap.size ≤ g) (v0 v1 v2 v3 v4 v5 v6 : Value) : Below w0.heap.size w0 (sets7 w g v0 v1 v2 v3 v4 v5 v6) :=
  set_below (set_below (set_below (set_below (set_below (set_below (set_below h hg _ _) hg _ _) hg _ _) hg _ _) hg _ _) hg _ _) hg _ _
theorem OwnF.kept {w w' : World} {B : Nat} {v : Value} {R : List (Nm × RFi)} (h : OwnF w B v R) (hk : ∀ j, B ≤ j → w'.heap[j]? = w.heap[j]?) : OwnF w' B v R := by
  refine ⟨h.1, ?_⟩
  rcases h.2 with h' | ⟨g, cap, cur, e, hb, hg, r⟩
  · exact Or.inl h'
  · exact Or.inr ⟨g, cap, cur, e, hb, (hk g hb).trans hg, r⟩

/-- A file whose tail is torn. -/
def RFi.torn (q : Nat) (f : RFi) : RFi := ⟨f.b.take (lft q f.s f.b.length), lft q f.s f.b.length, f.a, f.c⟩
def tornR (q : Nat) (p : Nm × RFi) : Nm × RFi := (p.1, p.2.torn q)
theorem torn_fl (q : Nat) (R : List (Nm × RFi)) : mp RFi.fl (R.map (tornR q)) = mp (Fl.torn q) (mp RFi.fl R) := by
  simp [mp, tornR, RFi.torn, RFi.fl, Fl.torn]
theorem torn_ok {q : Nat} {f : RFi} {w : World} (h : f.Ok sp w) (hs : f.s ≤ f.b.length) : (f.torn q).Ok sp w := by
  have hl := lft_le (k := q) hs
  have h1 := src_take h.1 (lft q f.s f.b.length) hl
  have e : (f.b.take (lft q f.s f.b.length)).length = lft q f.s f.b.length := by rw [List.length_take]; omega
  refine ⟨?_, ⟨?_, h.2.1.2⟩, h.2.2.1, fun ad hp he => h.2.2.2 ad (by have h9 : 0 < (f.b.take (lft q f.s f.b.length)).length := hp; omega) he⟩
  · show Src w f.a (f.b.take (lft q f.s f.b.length)).length (f.b.take (lft q f.s f.b.length))
    rw [e]; exact h1
  · show (f.b.take (lft q f.s f.b.length)).length ≤ f.c
    rw [e]
    exact Nat.le_trans hl h.2.1.1

set_option maxRecDepth 100000 in
set_option maxHeartbeats 8000000 in
theorem rfall_any (a : Option Addr) (c : Nat) (R : List (Nm × RFi)) (room qq : Nat) (off due : Bool) (o p : Int) (w : World) (h : FR sp w (.slice a R.length c) R) (hl : R.length ≤ 1000) (hs : ∀ x ∈ R, x.2.s ≤ x.2.b.length ∧ x.2.b.length ≤ 1000000) (hq : qq ≤ 9223372036854775807) :
    Calls Try.prog 45 #[.agg #[.slice a R.length c, .int .i64 (room : Int), .bool off, .bool due, .int .i64 o, .int .i64 p, .int .i64 (qq : Int)]] w fun e w' => ∃ a2 c2, e = .returned (.agg #[.slice a2 R.length c2, .int .i64 (room : Int), .bool true, .bool false, .int .i64 0, .int .i64 0, .int .i64 0]) ∧ FR sp w' (.slice a2 R.length c2) (R.map (tornR qq)) ∧ Below w.heap.size w w' := by
  obtain ⟨a', c', ev, hrow⟩ := h.row
  cases ev
  have HF := hid h
  have HR := hid hrow
  have HH := hid (heap_new2 w (.cells #[.slice a R.length c, .int .i64 (room : Int), .bool off, .bool due, .int .i64 o, .int .i64 p, .int .i64 (qq : Int)] 28) (.cells #[.slice none 0 0, .int .i64 0, .bool false, .bool false, .int .i64 0, .int .i64 0, .int .i64 0] 28))
  have HB0 := hid (below2 w (.cells #[.slice a R.length c, .int .i64 (room : Int), .bool off, .bool due, .int .i64 o, .int .i64 p, .int .i64 (qq : Int)] 28) (.cells #[.slice none 0 0, .int .i64 0, .bool false, .bool false, .int .i64 0, .int .i64 0, .int .i64 0] 28))
  have HS := hid hs
  clear h hrow hs
  go_enter Try.func45, Try.ntmps45
  go_wp2
  go_loopw [3, 4] (fun vl vi wr => ∃ k : Nat, vi = .int .i64 (k : Int) ∧ k ≤ R.length ∧ Hid (OwnF wr (w.heap.size + 2) vl ((R.take k).map (tornR qq))) ∧ Hid (Below (w.heap.size + 2) ((w.alloc (.cells #[.slice a R.length c, .int .i64 (room : Int), .bool off, .bool due, .int .i64 o, .int .i64 p, .int .i64 (qq : Int)] 28)).alloc (.cells #[.slice none 0 0, .int .i64 0, .bool false, .bool false, .int .i64 0, .int .i64 0, .int .i64 0] 28)) wr)) (fun _ vi _ => R.length - (intOf vi).toNat)
  case atStart => exact ⟨0, rfl, Nat.zero_le _, hid (by simpa using OwnF.nil _ _), hid (Below.refl _ _)⟩
  case round =>
    obtain ⟨k, rfl, hk, HO, HB⟩ := hrel
    have hbz : w.heap.size + 2 ≤ wr.heap.size := by have h9 := HB.out.size; simpa using h9
    have HG := hid (HB0.out.trans (HB.out.mono (by omega)))
    have hx1 := (HB.out.block w.heap.size (by omega)).trans HH.out.1
    have b0 : wr.cell? ⟨w.heap.size, 0, none⟩ = some (.slice a R.length c) := cell_blk hx1 rfl
    have b1 : wr.cell? ⟨w.heap.size, 1, none⟩ = some (.int .i64 (room : Int)) := cell_blk hx1 rfl
    have b6 : wr.cell? ⟨w.heap.size, 6, none⟩ = some (.int .i64 (qq : Int)) := cell_blk hx1 rfl
    have hx2 := (HB.out.block (w.heap.size + 1) (by omega)).trans HH.out.2
    have HX2 := hid hx2
    clear hx1 hx2
    by_cases hlt : k < R.length
    · have e5 : decide ((k : Int) < (R.length : Int)) = true := decide_eq_true (by omega)
      obtain ⟨x, hq9⟩ : ∃ q, R[k]? = some q := ⟨R[k], List.getElem?_eq_getElem hlt⟩
      obtain ⟨g, ea, x0, x1, x2⟩ := HR.out k x hq9
      subst ea
      have y0 := (HG.out.cell (cell_block x0)).trans x0
      have y1 := (HG.out.cell (cell_block x1)).trans x1
      have y2 := (HG.out.cell (cell_block x2)).trans x2
      have hxm := List.mem_of_getElem? hq9
      obtain ⟨hs1, hs2⟩ := HS.out x hxm
      have hcc := (HF.out.ok x hxm).2.1
      have hcm := hcc.2
      unfold maxLen at hcm
      have HT : Hid ((R.take (k + 1)).map (tornR qq) = (R.take k).map (tornR qq) ++ [tornR qq x]) := hid (by rw [List.take_add_one, hq9]; simp)
      have holen : ((R.take k).map (tornR qq)).length = k := by simp; omega
      have hw1 : wrap64 ((x.2.b.length : Int) - (x.2.s : Int)) = (x.2.b.length : Int) - (x.2.s : Int) := by unfold wrap64; omega
      have hw2 : IntKind.i64.wrap ((x.2.b.length : Int) - (x.2.s : Int)) = (x.2.b.length : Int) - (x.2.s : Int) := by rw [IntKind.wrap_i64]; omega
      have hal6 := fun X => (World.cell?_alloc_some wr ⟨w.heap.size, 6, none⟩ X (by rw [b6]; rfl)).trans b6
      clear x0 x1 x2 hq9 hxm
      by_cases hkk : (qq : Int) < (x.2.b.length : Int) - (x.2.s : Int)
      · have e6 : decide ((qq : Int) < (x.2.b.length : Int) - (x.2.s : Int)) = true := decide_eq_true hkk
        have hlf : lft qq x.2.s x.2.b.length = x.2.s + qq := by unfold lft; omega
        have hll : x.2.s + qq ≤ x.2.b.length := by rw [← hlf]; exact lft_le hs1
        have hlc : x.2.s + qq ≤ x.2.c := Nat.le_trans hll hcc.1
        have hnlc : ¬ x.2.c < x.2.s + qq := Nat.not_lt.2 hlc
        have hpc : ∀ (W : World), ∀ j u, (fcs (tornR qq x))[j]? = some u → (W.alloc (.cells #[.string (bs x.1), .slice x.2.a (x.2.s + qq) x.2.c, .int .i64 ((x.2.s : Int) + (qq : Int))] 57)).cell? ((⟨W.heap.size, 0, none⟩ : Addr).add j) = some u := fun W => by
          have h9 := new_fcs W (tornR qq x)
          have h8 : (x.2.b.take (x.2.s + qq)).length = x.2.s + qq := by rw [List.length_take]; exact Nat.min_eq_left hll
          simp only [tornR, RFi.torn] at h9 ⊢
          rw [hlf, h8, Int.natCast_add] at h9
          rw [hlf]
          exact h9
        have hpc2 : ∀ j u, (fcs (tornR qq x))[j]? = some u → ((wr.alloc (.cells #[.string (bs x.1), .slice x.2.a (x.2.s + qq) x.2.c, .int .i64 ((x.2.s : Int) + (qq : Int))] 57)).alloc (.cells #[.string (bs x.1), .slice x.2.a (x.2.s + qq) x.2.c, .int .i64 ((x.2.s : Int) + (qq : Int))] 57)).cell? ((⟨wr.heap.size + 1, 0, none⟩ : Addr).add j) = some u := by
          have h9 := hpc (wr.alloc (.cells #[.string (bs x.1), .slice x.2.a (x.2.s + qq) x.2.c, .int .i64 ((x.2.s : Int) + (qq : Int))] 57))
          have h8 : (wr.alloc (.cells #[.string (bs x.1), .slice x.2.a (x.2.s + qq) x.2.c, .int .i64 ((x.2.s : Int) + (qq : Int))] 57)).heap.size = wr.heap.size + 1 := by simp
          rw [h8] at h9
          exact h9
        have HPC := hid hpc2
        clear hpc2
        clear hpc hlf hlc hnlc
        (try clear hll)
        go_wp2_with (at_builtin; refine wpList_append_file rfl _ _ rfl (w.heap.size + 2) _ ((R.take k).map (tornR qq)) rfl ((HO.out.alloc _).alloc _) (wr.heap.size + 1) (tornR qq x) rfl HPC.out (by rw [holen]; omega) (by simp; omega) ?_; intro g7 cap7 w7 hO7 hG7; rw [holen] at hO7 ⊢; have HO7 := hid hO7; have HB7 := hid (app_below (HB.out.trans ((new_below wr _).mono hbz)) (by simp; omega) (HO.out.alloc _) hG7); clear hO7 hG7)
        go_roundw
        case rel => exact ⟨k + 1, by go_num, by omega, hid (by rw [HT.out]; exact HO7.out), HB7⟩
        case measure => simp [intOf]; omega
      · have e6 : decide ((qq : Int) < (x.2.b.length : Int) - (x.2.s : Int)) = false := decide_eq_false hkk
        have hlf : lft qq x.2.s x.2.b.length = x.2.b.length := by unfold lft; omega
        have hlc : x.2.b.length ≤ x.2.c := hcc.1
        have hnlc : ¬ x.2.c < x.2.b.length := Nat.not_lt.2 hlc
        have hpc : ∀ (W : World), ∀ j u, (fcs (tornR qq x))[j]? = some u → (W.alloc (.cells #[.string (bs x.1), .slice x.2.a x.2.b.length x.2.c, .int .i64 (x.2.b.length : Int)] 57)).cell? ((⟨W.heap.size, 0, none⟩ : Addr).add j) = some u := fun W => by
          have h9 := new_fcs W (tornR qq x)
          have h8 : (x.2.b.take x.2.b.length).length = x.2.b.length := by rw [List.length_take]; clear hcm hcc; omega
          simp only [tornR, RFi.torn] at h9 ⊢
          rw [hlf, h8] at h9
          rw [hlf]
          exact h9
        have hpc2 : ∀ j u, (fcs (tornR qq x))[j]? = some u → ((wr.alloc (.cells #[.string (bs x.1), .slice x.2.a x.2.b.length x.2.c, .int .i64 (x.2.b.length : Int)] 57)).alloc (.cells #[.string (bs x.1), .slice x.2.a x.2.b.length x.2.c, .int .i64 (x.2.b.length : Int)] 57)).cell? ((⟨wr.heap.size + 1, 0, none⟩ : Addr).add j) = some u := by
          have h9 := hpc (wr.alloc (.cells #[.string (bs x.1), .slice x.2.a x.2.b.length x.2.c, .int .i64 (x.2.b.length : Int)] 57))
          have h8 : (wr.alloc (.cells #[.string (bs x.1), .slice x.2.a x.2.b.length x.2.c, .int .i64 (x.2.b.length : Int)] 57)).heap.size = wr.heap.size + 1 := by simp
          rw [h8] at h9
          exact h9
        have HPC := hid hpc2
        clear hpc2
        clear hpc hlf hlc hnlc
        (try clear hll)
        go_wp2_with (at_builtin; refine wpList_append_file rfl _ _ rfl (w.heap.size + 2) _ ((R.take k).map (tornR qq)) rfl ((HO.out.alloc _).alloc _) (wr.heap.size + 1) (tornR qq x) rfl HPC.out (by rw [holen]; omega) (by simp; omega) ?_; intro g7 cap7 w7 hO7 hG7; rw [holen] at hO7 ⊢; have HO7 := hid hO7; have HB7 := hid (app_below (HB.out.trans ((new_below wr _).mono hbz)) (by simp; omega) (HO.out.alloc _) hG7); clear hO7 hG7)
        go_roundw
        case rel => exact ⟨k + 1, by go_num, by omega, hid (by rw [HT.out]; exact HO7.out), HB7⟩
        case measure => simp [intOf]; omega
    · obtain rfl : k = R.length := by omega
      have e5 : decide ((R.length : Int) < (R.length : Int)) = false := by simp
      obtain ⟨a8, c8, hv8⟩ : ∃ a8 c8, u3 = .slice a8 R.length c8 := by
        have h9 := HO.out.fr HG.out (fun p hp => by
          obtain ⟨y, hy, rfl⟩ := List.mem_map.1 hp
          have hy' := List.mem_of_mem_take hy
          exact torn_ok (HF.out.ok y hy') (HS.out y hy').1) HF.out.base (by omega)
        obtain ⟨a8, c8, e8, _⟩ := h9.row
        exact ⟨a8, c8, by rw [e8]; simp⟩
      subst hv8
      have g0 := frz_blk (i := 0) HX2.out
      have g1 := frz_blk (i := 1) HX2.out
      have g2 := frz_blk (i := 2) HX2.out
      have g3 := frz_blk (i := 3) HX2.out
      have g4 := frz_blk (i := 4) HX2.out
      have g5 := frz_blk (i := 5) HX2.out
      have g6 := frz_blk (i := 6) HX2.out
      have d0 := cell_blk (i := 0) HX2.out rfl
      have d1 := cell_blk (i := 1) HX2.out rfl
      have d2 := cell_blk (i := 2) HX2.out rfl
      have d3 := cell_blk (i := 3) HX2.out rfl
      have d4 := cell_blk (i := 4) HX2.out rfl
      have d5 := cell_blk (i := 5) HX2.out rfl
      have d6 := cell_blk (i := 6) HX2.out rfl
      have HE := hid (sets7_at HX2.out (.slice a8 R.length c8) (.int .i64 (room : Int)) (.bool true) (.bool false) (.int .i64 0) (.int .i64 0) (.int .i64 0))
      have HEB := hid (sets7_below HG.out (Nat.le_succ w.heap.size) (.slice a8 R.length c8) (.int .i64 (room : Int)) (.bool true) (.bool false) (.int .i64 0) (.int .i64 0) (.int .i64 0))
      have HEO := hid ((HO.out.kept (fun j hj => sets7_far wr (w.heap.size + 1) (.slice a8 R.length c8) (.int .i64 (room : Int)) (.bool true) (.bool false) (.int .i64 0) (.int .i64 0) (.int .i64 0) j (by omega))).fr HEB.out (fun p hp => by
        obtain ⟨y, hy, rfl⟩ := List.mem_map.1 hp
        have hy' := List.mem_of_mem_take hy
        exact torn_ok (HF.out.ok y hy') (HS.out y hy').1) HF.out.base (by omega))
      go_wp2
      refine bodyPost_ret (res1 rfl _ _ (w.heap.size + 1) _ rfl HE.out rfl) rfl ⟨a8, c8, rfl, ?_, HEB.out⟩
      have h9 := HEO.out
      rw [List.take_of_length_le (Nat.le_refl _)] at h9
      exact h9
end

section
set_option linter.unusedVariables false
set_option linter.unusedSimpArgs false
open Go.RowKit
set_option linter.unusedSectionVars false
variable {sp : Sep}


/-- A row of files lies in other blocks than g. -/
structure Far (g : Nat) (v : Value) (R : List (Nm × RFi)) : Prop where
  by' : ∀ p ∈ R, ∀ ad, 0 < p.2.b.length → p.2.a = some ad → ad.block ≠ g
  rw' : ∀ a c, v = .slice (some ⟨a, 0, none⟩) R.length c → R ≠ [] → a ≠ g

theorem FR.kept {w w' : World} {v : Value} {R : List (Nm × RFi)} (h : FR sp w v R) {g : Nat} (hf : Far g v R) (hk : ∀ j, j ≠ g → w'.heap[j]? = w.heap[j]?) (hz : w.heap.size ≤ w'.heap.size := by first | (simp; done) | (simp [sets7]; done)) : FR sp w' v R := by
  refine ⟨fun p hp => ⟨⟨(h.ok p hp).1.1, fun hpos => ?_⟩, (h.ok p hp).2⟩, ?_, h.loc, Nat.le_trans h.base hz⟩
  · obtain ⟨ad, e, hc⟩ := (h.ok p hp).1.2 hpos
    refine ⟨ad, e, fun j u hj => ?_⟩
    rw [← hc j u hj]
    exact cell_same (hk _ (hf.by' p hp ad hpos e))
  · obtain ⟨a, c, e, hr⟩ := h.row
    refine ⟨a, c, e, fun j p hj => ?_⟩
    obtain ⟨g', e', c0, c1, c2⟩ := hr j p hj
    have hR : R ≠ [] := by rintro rfl; simp at hj
    have hg' := hf.rw' g' c (by rw [e, e']) hR
    have hh : ∀ (o : Nat), w'.cell? ⟨g', o, none⟩ = w.cell? ⟨g', o, none⟩ := fun o => by
      simp only [World.cell?, hk g' hg']
    exact ⟨g', e', (hh _).trans c0, (hh _).trans c1, (hh _).trans c2⟩

theorem no_u8 {s : Option Addr} {l c : Nat} {i1 i4 i5 i6 u : Int} {b2 b3 : Bool} (k : Nat) : (#[.slice s l c, .int .i64 i1, .bool b2, .bool b3, .int .i64 i4, .int .i64 i5, .int .i64 i6] : Array Value)[k]? ≠ some (.int .u8 u) := by
  rcases k with _ | _ | _ | _ | _ | _ | _ | k <;> simp

theorem FR.far7 {w : World} {v : Value} {R : List (Nm × RFi)} (h : FR sp w v R) {g : Nat} {s : Option Addr} {l c : Nat} {i1 i4 i5 i6 : Int} {b2 b3 : Bool} {ty : TypeId} {f : Nat × Nat} (hx : w.heap[g]? = some (.cells #[.slice s l c, .int .i64 i1, .bool b2, .bool b3, .int .i64 i4, .int .i64 i5, .int .i64 i6] ty f)) : Far g v R := by
  refine ⟨fun p hp ad hpos e he => ?_, fun a c' e hR he => ?_⟩
  · obtain ⟨ad', e', hc⟩ := (h.ok p hp).1.2 hpos
    obtain rfl : ad' = ad := by rw [e] at e'; exact (Option.some.inj e').symm
    obtain ⟨u, hu⟩ : ∃ u, p.2.b[0]? = some u := ⟨p.2.b[0], List.getElem?_eq_getElem hpos⟩
    have h0 := hc 0 u hu
    have ea : ad'.add 0 = ad' := by simp [Addr.add]
    rw [ea] at h0
    simp only [World.cell?, he, hx] at h0
    split at h0
    · cases h0
    · exact no_u8 _ h0
  · obtain ⟨a', c'', e', hr⟩ := h.row
    obtain ⟨p, rest, rfl⟩ : ∃ p rest, R = p :: rest := by
      cases R with
      | nil => exact absurd rfl hR
      | cons p rest => exact ⟨p, rest, rfl⟩
    obtain ⟨g', eg, c0, _⟩ := hr 0 p rfl
    subst he
    rw [e'] at e
    obtain rfl : a' = some ⟨a, 0, none⟩ := by
      injection e
    obtain rfl : a = g' := by
      injection eg with eg
      injection eg
    rw [Nat.zero_mul, cell_blk (i := 0) hx rfl] at c0
    simp at c0

theorem below_at2 {w : World} {g : Nat} {x : Obj} {o : Obj} (h : w.heap[g]? = some x) : (w.alloc o).heap[g]? = some x := (Below.heap_alloc _ _ _ (Array.getElem?_eq_some_iff.1 h).1).trans h

set_option maxRecDepth 100000 in
set_option maxHeartbeats 4000000 in
theorem do_off (kind : Int) (n t : Nm) (ao : Option Addr) (ll cc : Nat) (z : Int) (a : Option Addr) (c : Nat) (R : List (Nm × RFi)) (room : Nat) (due : Bool) (o p k : Int) (w : World) :
    Calls Try.prog 26 #[.agg #[.slice a R.length c, .int .i64 (room : Int), .bool true, .bool due, .int .i64 o, .int .i64 p, .int .i64 k], .int .i64 kind, .string (bs n), .string (bs t), .slice ao ll cc, .int .i64 z] w fun e w' => e = .returned (.tuple #[.agg #[.slice a R.length c, .int .i64 (room : Int), .bool true, .bool due, .int .i64 o, .int .i64 p, .int .i64 k], .int .i64 71]) ∧ Below w.heap.size w w' := by
  go_enter Try.func26, Try.ntmps26
  go_wp2
  exact bodyPost_ret (res2 rfl _ _ (w.heap.size + 1) _ rfl (heap_last1 _ _ _) rfl) rfl ⟨rfl, below2 _ _ _⟩

set_option maxRecDepth 100000 in
set_option maxHeartbeats 8000000 in
theorem do_err (kind : Int) (x : Nat) (n t : Nm) (ao : Option Addr) (ll cc : Nat) (z : Int) (a : Option Addr) (c : Nat) (R : List (Nm × RFi)) (room : Nat) (due due2 : Bool) (o o2 p k : Int) (w : World) (hx : (x : Int) ≠ 0)
    (hw : ∀ w1, Below w.heap.size w w1 → Calls Try.prog 42 #[.agg #[.slice a R.length c, .int .i64 (room : Int), .bool false, .bool due, .int .i64 o, .int .i64 p, .int .i64 k], .int .i64 kind, .string (bs n), .string (bs t), .slice ao ll cc, .int .i64 z] w1 fun e w' => e = .returned (.int .i64 (x : Int)) ∧ Below w1.heap.size w1 w')
    (hdue : ∀ w1, Calls Try.prog 43 #[.agg #[.slice a R.length c, .int .i64 (room : Int), .bool false, .bool due, .int .i64 o, .int .i64 p, .int .i64 k]] w1 fun e w' => e = .returned (.tuple #[.agg #[.slice a R.length c, .int .i64 (room : Int), .bool false, .bool due2, .int .i64 o2, .int .i64 p, .int .i64 k], .bool false]) ∧ Below w1.heap.size w1 w') :
    Calls Try.prog 26 #[.agg #[.slice a R.length c, .int .i64 (room : Int), .bool false, .bool due, .int .i64 o, .int .i64 p, .int .i64 k], .int .i64 kind, .string (bs n), .string (bs t), .slice ao ll cc, .int .i64 z] w fun e w' => e = .returned (.tuple #[.agg #[.slice a R.length c, .int .i64 (room : Int), .bool false, .bool due2, .int .i64 o2, .int .i64 p, .int .i64 k], .int .i64 (x : Int)]) ∧ Below w.heap.size w w' := by
  have HB0 := hid (below2 w (.cells #[.slice a R.length c, .int .i64 (room : Int), .bool false, .bool due, .int .i64 o, .int .i64 p, .int .i64 k] 28) (.cells #[.slice none 0 0, .int .i64 0, .bool false, .bool false, .int .i64 0, .int .i64 0, .int .i64 0] 28))
  have HH := hid (heap_new2 w (.cells #[.slice a R.length c, .int .i64 (room : Int), .bool false, .bool due, .int .i64 o, .int .i64 p, .int .i64 k] 28) (.cells #[.slice none 0 0, .int .i64 0, .bool false, .bool false, .int .i64 0, .int .i64 0, .int .i64 0] 28))
  have HW := hid (hw _ HB0.out)
  have HD := hid hdue
  have hx2 : ((x : Int) == 0) = false := by simpa using hx
  have hx3 : ¬ (x : Int) = 0 := hx
  clear hw hdue hx
  go_enter Try.func26, Try.ntmps26
  go_wp2_with (first
    | (go_at_call 42; refine HW.out.mono ?_; rintro e w1 ⟨rfl, hb⟩; have HB1 := hid (HB0.out.trans (hb.mono HB0.out.size)); have h1 := (hb.block w.heap.size (by simp; omega)).trans HH.out.1; have h2 := (hb.block (w.heap.size + 1) (by simp)).trans HH.out.2; have x0 := cell_blk (i := 0) h1 rfl; have x1 := cell_blk (i := 1) h1 rfl; have x2 := cell_blk (i := 2) h1 rfl; have x3 := cell_blk (i := 3) h1 rfl; have x4 := cell_blk (i := 4) h1 rfl; have x5 := cell_blk (i := 5) h1 rfl; have x6 := cell_blk (i := 6) h1 rfl; have H2 := hid h2; clear hb h1 h2)
    | (go_at_call 43; refine (HD.out _).mono ?_; rintro e w2 ⟨rfl, hb⟩; have HB2 := hid (HB1.out.trans (hb.mono HB1.out.size)); have h2 := (hb.block (w.heap.size + 1) (Array.getElem?_eq_some_iff.1 H2.out).1).trans H2.out; have h3 := (below_at2 (o := .cells #[.slice a R.length c, .int .i64 (room : Int), .bool false, .bool due2, .int .i64 o2, .int .i64 p, .int .i64 k] 28) h2); have y0 := cell_blk (i := 0) h3 rfl; have y1 := cell_blk (i := 1) h3 rfl; have y2 := cell_blk (i := 2) h3 rfl; have y3 := cell_blk (i := 3) h3 rfl; have y4 := cell_blk (i := 4) h3 rfl; have y5 := cell_blk (i := 5) h3 rfl; have y6 := cell_blk (i := 6) h3 rfl; have f0 := frz_blk (i := 0) h3; have f1 := frz_blk (i := 1) h3; have f2 := frz_blk (i := 2) h3; have f3 := frz_blk (i := 3) h3; have f4 := frz_blk (i := 4) h3; have f5 := frz_blk (i := 5) h3; have f6 := frz_blk (i := 6) h3; have H3 := hid h3; have HG2 := hid h2; clear hb h2 h3))
  have HEx := hid (sets7_at H3.out (.slice a R.length c) (.int .i64 (room : Int)) (.bool false) (.bool due2) (.int .i64 o2) (.int .i64 p) (.int .i64 k))
  have HEB := hid (sets7_below (HB2.out.trans ((new_below w2 (.cells #[.slice a R.length c, .int .i64 (room : Int), .bool false, .bool due2, .int .i64 o2, .int .i64 p, .int .i64 k] 28)).mono HB2.out.size)) (Nat.le_succ w.heap.size) (.slice a R.length c) (.int .i64 (room : Int)) (.bool false) (.bool due2) (.int .i64 o2) (.int .i64 p) (.int .i64 k))
  exact bodyPost_ret (res2 rfl _ _ (w.heap.size + 1) _ rfl HEx.out rfl) rfl ⟨rfl, HEB.out⟩

set_option maxRecDepth 100000 in
set_option maxHeartbeats 8000000 in
theorem do_ok (kind : Int) (n t : Nm) (ao : Option Addr) (ll cc : Nat) (z : Int) (a : Option Addr) (c : Nat) (R : List (Nm × RFi)) (room : Nat) (due due2 : Bool) (o o2 p k : Int) (w : World) (G : List (Nm × Fl)) (hll : ll ≤ cc) (hcm : cc ≤ maxLen)
    (hw : ∀ w1, Below w.heap.size w w1 → Calls Try.prog 42 #[.agg #[.slice a R.length c, .int .i64 (room : Int), .bool false, .bool due, .int .i64 o, .int .i64 p, .int .i64 k], .int .i64 kind, .string (bs n), .string (bs t), .slice ao ll cc, .int .i64 z] w1 fun e w' => e = .returned (.int .i64 0) ∧ Below w1.heap.size w1 w')
    (hdue : ∀ w1, Calls Try.prog 43 #[.agg #[.slice a R.length c, .int .i64 (room : Int), .bool false, .bool due, .int .i64 o, .int .i64 p, .int .i64 k]] w1 fun e w' => e = .returned (.tuple #[.agg #[.slice a R.length c, .int .i64 (room : Int), .bool false, .bool due2, .int .i64 o2, .int .i64 p, .int .i64 k], .bool false]) ∧ Below w1.heap.size w1 w')
    (hdone : ∀ w1, Below w.heap.size w w1 → Calls Try.prog 44 #[.slice a R.length c, .int .i64 kind, .string (bs n), .string (bs t), .slice ao ll cc, .int .i64 z, .bool true, .bool true] w1 fun e w' => ∃ v, e = .returned v ∧ ∃ R', FR sp w' v R' ∧ mp RFi.fl R' = G ∧ Below w1.heap.size w1 w') :
    Calls Try.prog 26 #[.agg #[.slice a R.length c, .int .i64 (room : Int), .bool false, .bool due, .int .i64 o, .int .i64 p, .int .i64 k], .int .i64 kind, .string (bs n), .string (bs t), .slice ao ll cc, .int .i64 z] w fun e w' => ∃ v, e = .returned (.tuple #[.agg #[v, .int .i64 (room : Int), .bool false, .bool due2, .int .i64 o2, .int .i64 p, .int .i64 k], .int .i64 0]) ∧ ∃ R', FR sp w' v R' ∧ mp RFi.fl R' = G ∧ Below w.heap.size w w' := by
  have HB0 := hid (below2 w (.cells #[.slice a R.length c, .int .i64 (room : Int), .bool false, .bool due, .int .i64 o, .int .i64 p, .int .i64 k] 28) (.cells #[.slice none 0 0, .int .i64 0, .bool false, .bool false, .int .i64 0, .int .i64 0, .int .i64 0] 28))
  have HH := hid (heap_new2 w (.cells #[.slice a R.length c, .int .i64 (room : Int), .bool false, .bool due, .int .i64 o, .int .i64 p, .int .i64 k] 28) (.cells #[.slice none 0 0, .int .i64 0, .bool false, .bool false, .int .i64 0, .int .i64 0, .int .i64 0] 28))
  have HW := hid (hw _ HB0.out)
  have HD := hid hdue
  have HDN := hid hdone
  have hmxo : Try.prog.follows .mixedOrders = true := by kernel_rfl
  unfold maxLen at hcm
  have hnll : ¬ cc < ll := Nat.not_lt.2 hll
  clear hw hdue hdone
  go_enter Try.func26, Try.ntmps26
  go_wp2_with (first
    | (go_at_call 42; refine HW.out.mono ?_; rintro e w1 ⟨rfl, hb⟩; have HB1 := hid (HB0.out.trans (hb.mono HB0.out.size)); have h1 := (hb.block w.heap.size (by simp; omega)).trans HH.out.1; have h2 := (hb.block (w.heap.size + 1) (by simp)).trans HH.out.2; have x0 := cell_blk (i := 0) h1 rfl; have x1 := cell_blk (i := 1) h1 rfl; have x2 := cell_blk (i := 2) h1 rfl; have x3 := cell_blk (i := 3) h1 rfl; have x4 := cell_blk (i := 4) h1 rfl; have x5 := cell_blk (i := 5) h1 rfl; have x6 := cell_blk (i := 6) h1 rfl; have H2 := hid h2; clear hb h1 h2)
    | (go_at_call 43; refine (HD.out _).mono ?_; rintro e w2 ⟨rfl, hb⟩; have HB2 := hid (HB1.out.trans (hb.mono HB1.out.size)); have h2 := (hb.block (w.heap.size + 1) (Array.getElem?_eq_some_iff.1 H2.out).1).trans H2.out; have h3 := (below_at2 (o := .cells #[.slice a R.length c, .int .i64 (room : Int), .bool false, .bool due2, .int .i64 o2, .int .i64 p, .int .i64 k] 28) h2); have y0 := cell_blk (i := 0) h3 rfl; have y1 := cell_blk (i := 1) h3 rfl; have y2 := cell_blk (i := 2) h3 rfl; have y3 := cell_blk (i := 3) h3 rfl; have y4 := cell_blk (i := 4) h3 rfl; have y5 := cell_blk (i := 5) h3 rfl; have y6 := cell_blk (i := 6) h3 rfl; have f0 := frz_blk (i := 0) h3; have f1 := frz_blk (i := 1) h3; have f2 := frz_blk (i := 2) h3; have f3 := frz_blk (i := 3) h3; have f4 := frz_blk (i := 4) h3; have f5 := frz_blk (i := 5) h3; have f6 := frz_blk (i := 6) h3; have H3 := hid h3; have HG2 := hid h2; clear hb h2 h3))
  have z0 : (w2.alloc (.cells #[.slice a R.length c, .int .i64 (room : Int), .bool false, .bool due2, .int .i64 o2, .int .i64 p, .int .i64 k] 28)).drew.cell? ⟨w2.heap.size, 0, none⟩ = some (.slice a R.length c) := cell_blk (w := (w2.alloc (.cells #[.slice a R.length c, .int .i64 (room : Int), .bool false, .bool due2, .int .i64 o2, .int .i64 p, .int .i64 k] 28)).drew) (heap_new w2 _) rfl
  refine wp_region_held_drew (S := fun _ => True) hmxo trivial ?_
  intro _
  refine wpAnyH_take (i := 0) (v := .pointer (some ⟨w2.heap.size, 0, none⟩)) rfl (by kernel_rfl) (by kernel_rfl) (by kernel_rfl) (fun _ _ _ h => h) (Or.inl ⟨by kernel_rfl, fun w hSw => ?_⟩) trivial ?_
  · go_simp
  simp only [Act.put, List.getElem_toArray, List.getElem_cons_succ, List.getElem_cons_zero, List.setIfInBounds_toArray, List.set_cons_zero, List.set_cons_succ]
  refine wpAnyH_take (i := 2) (v := .int .i64 kind) rfl (by kernel_rfl) (by kernel_rfl) (by kernel_rfl) (fun _ _ _ h => h) (Or.inl ⟨by kernel_rfl, fun w hSw => ?_⟩) trivial ?_
  · go_simp
  simp only [Act.put, List.getElem_toArray, List.getElem_cons_succ, List.getElem_cons_zero, List.setIfInBounds_toArray, List.set_cons_zero, List.set_cons_succ]
  refine wpAnyH_take (i := 3) (v := .string (bs n)) rfl (by kernel_rfl) (by kernel_rfl) (by kernel_rfl) (fun _ _ _ h => h) (Or.inl ⟨by kernel_rfl, fun w hSw => ?_⟩) trivial ?_
  · go_simp
  simp only [Act.put, List.getElem_toArray, List.getElem_cons_succ, List.getElem_cons_zero, List.setIfInBounds_toArray, List.set_cons_zero, List.set_cons_succ]
  refine wpAnyH_take (i := 4) (v := .string (bs t)) rfl (by kernel_rfl) (by kernel_rfl) (by kernel_rfl) (fun _ _ _ h => h) (Or.inl ⟨by kernel_rfl, fun w hSw => ?_⟩) trivial ?_
  · go_simp
  simp only [Act.put, List.getElem_toArray, List.getElem_cons_succ, List.getElem_cons_zero, List.setIfInBounds_toArray, List.set_cons_zero, List.set_cons_succ]
  refine wpAnyH_take (i := 5) (v := .slice ao ll cc) rfl (by kernel_rfl) (by kernel_rfl) (by kernel_rfl) (fun _ _ _ h => h) (Or.inl ⟨by kernel_rfl, fun w hSw => ?_⟩) trivial ?_
  · go_simp
  simp only [Act.put, List.getElem_toArray, List.getElem_cons_succ, List.getElem_cons_zero, List.setIfInBounds_toArray, List.set_cons_zero, List.set_cons_succ]
  refine wpAnyH_take (i := 6) (v := .int .i64 (ll : Int)) rfl (by kernel_rfl) (by kernel_rfl) (by kernel_rfl) (fun _ _ _ h => h) (Or.inl ⟨by kernel_rfl, fun w hSw => ?_⟩) trivial ?_
  · go_simp
  simp only [Act.put, List.getElem_toArray, List.getElem_cons_succ, List.getElem_cons_zero, List.setIfInBounds_toArray, List.set_cons_zero, List.set_cons_succ]
  refine wpAnyH_take (i := 7) (v := .slice ao ll cc) rfl (by kernel_rfl) (by kernel_rfl) (by kernel_rfl) (fun _ _ _ h => h) (Or.inl ⟨by kernel_rfl, fun w hSw => ?_⟩) trivial ?_
  · go_simp
  simp only [Act.put, List.getElem_toArray, List.getElem_cons_succ, List.getElem_cons_zero, List.setIfInBounds_toArray, List.set_cons_zero, List.set_cons_succ]
  refine wpAnyH_take (i := 8) (v := .int .i64 z) rfl (by kernel_rfl) (by kernel_rfl) (by kernel_rfl) (fun _ _ _ h => h) (Or.inl ⟨by kernel_rfl, fun w hSw => ?_⟩) trivial ?_
  · go_simp
  simp only [Act.put, List.getElem_toArray, List.getElem_cons_succ, List.getElem_cons_zero, List.setIfInBounds_toArray, List.set_cons_zero, List.set_cons_succ]
  refine wpAnyH_take (i := 9) (v := .bool true) rfl (by kernel_rfl) (by kernel_rfl) (by kernel_rfl) (fun _ _ _ h => h) (Or.inl ⟨by kernel_rfl, fun w hSw => ?_⟩) trivial ?_
  · go_simp
  simp only [Act.put, List.getElem_toArray, List.getElem_cons_succ, List.getElem_cons_zero, List.setIfInBounds_toArray, List.set_cons_zero, List.set_cons_succ]
  refine wpAnyH_take (i := 10) (v := .bool true) rfl (by kernel_rfl) (by kernel_rfl) (by kernel_rfl) (fun _ _ _ h => h) (Or.inl ⟨by kernel_rfl, fun w hSw => ?_⟩) trivial ?_
  · go_simp
  simp only [Act.put, List.getElem_toArray, List.getElem_cons_succ, List.getElem_cons_zero, List.setIfInBounds_toArray, List.set_cons_zero, List.set_cons_succ]
  refine wpAnyH_take (i := 11) (v := .bool true) rfl (by kernel_rfl) (by kernel_rfl) (by kernel_rfl) (fun _ _ _ h => h) (Or.inl ⟨by kernel_rfl, fun w hSw => ?_⟩) trivial ?_
  · go_simp
  simp only [Act.put, List.getElem_toArray, List.getElem_cons_succ, List.getElem_cons_zero, List.setIfInBounds_toArray, List.set_cons_zero, List.set_cons_succ]
  refine wpAnyH_take (i := 12) (v := undef) rfl (by kernel_rfl) (by kernel_rfl) (by kernel_rfl) (fun _ _ _ h => h) (Or.inr ⟨by kernel_rfl, rfl⟩) trivial ?_
  simp only [Act.put, List.getElem_toArray, List.getElem_cons_succ, List.getElem_cons_zero, List.setIfInBounds_toArray, List.set_cons_zero, List.set_cons_succ]
  refine wpAnyH_take (i := 13) (v := undef) rfl (by kernel_rfl) (by kernel_rfl) (by kernel_rfl) (fun _ _ _ h => h) (Or.inr ⟨by kernel_rfl, rfl⟩) trivial ?_
  simp only [Act.put, List.getElem_toArray, List.getElem_cons_succ, List.getElem_cons_zero, List.setIfInBounds_toArray, List.set_cons_zero, List.set_cons_succ]
  refine wpAnyH_take (i := 14) (v := undef) rfl (by kernel_rfl) (by kernel_rfl) (by kernel_rfl) (fun _ _ _ h => h) (Or.inr ⟨by kernel_rfl, rfl⟩) trivial ?_
  simp only [Act.put, List.getElem_toArray, List.getElem_cons_succ, List.getElem_cons_zero, List.setIfInBounds_toArray, List.set_cons_zero, List.set_cons_succ]
  refine wpAnyH_take (i := 15) (v := .bool true) rfl (by kernel_rfl) (by kernel_rfl) (by kernel_rfl) (fun _ _ _ h => h) (Or.inl ⟨by kernel_rfl, fun w hSw => ?_⟩) trivial ?_
  · go_simp
  simp only [Act.put, List.getElem_toArray, List.getElem_cons_succ, List.getElem_cons_zero, List.setIfInBounds_toArray, List.set_cons_zero, List.set_cons_succ]
  refine wpAnyH_ready (rs := [1]) (by kernel_rfl) (by simp) ?_
  refine AllReadyH.cons rfl (fun K hK => ?_) AllReadyH.nil
  go_simp
  refine hK.out _ _ trivial (fun _ => ?_)
  clear hK K
  try simp only [Act.put, List.getElem_toArray, List.getElem_cons_succ, List.getElem_cons_zero, List.setIfInBounds_toArray, List.set_cons_zero, List.set_cons_succ]
  refine wpAnyH_ready (rs := [16]) (by kernel_rfl) (by simp) ?_
  refine AllReadyH.cons rfl (fun K hK => ?_) AllReadyH.nil
  go_simp
  refine (HDN.out _ (bdrew (HB2.out.trans ((new_below w2 _).mono HB2.out.size)))).mono ?_
  rintro e w7 ⟨v7, rfl, R', hR7, hG, hb7⟩
  obtain ⟨a7, c7, rfl, _⟩ := hR7.row
  have X7 : w7.heap[w2.heap.size]? = some (.cells #[.slice a R.length c, .int .i64 (room : Int), .bool false, .bool due2, .int .i64 o2, .int .i64 p, .int .i64 k] 28 (0, 0)) := (hb7.block w2.heap.size (by show w2.heap.size < (w2.alloc _).heap.size; simp)).trans (heap_new w2 _)
  have H7 : w7.heap[w.heap.size + 1]? = some (.cells #[.slice none 0 0, .int .i64 0, .bool false, .bool false, .int .i64 0, .int .i64 0, .int .i64 0] 28 (0, 0)) := (hb7.block (w.heap.size + 1) (Array.getElem?_eq_some_iff.1 H3.out).1).trans H3.out
  have hne : w.heap.size + 1 ≠ w2.heap.size := Nat.ne_of_lt (Array.getElem?_eq_some_iff.1 HG2.out).1
  have HB7 := hid ((bdrew (HB2.out.trans ((new_below w2 (.cells #[.slice a R.length c, .int .i64 (room : Int), .bool false, .bool due2, .int .i64 o2, .int .i64 p, .int .i64 k] 28)).mono HB2.out.size))).trans (hb7.mono (Nat.le_trans HB2.out.size (by show w2.heap.size ≤ (w2.alloc _).heap.size; simp))))
  have hww : w.heap.size ≤ w2.heap.size := HB2.out.size
  have e70 := cell_blk (i := 0) X7 rfl
  have f70 := frz_blk (i := 0) X7
  have X8 : (w7.setCell ⟨w2.heap.size, 0, none⟩ (.slice a7 R'.length c7)).heap[w2.heap.size]? = some (.cells #[.slice a7 R'.length c7, .int .i64 (room : Int), .bool false, .bool due2, .int .i64 o2, .int .i64 p, .int .i64 k] 28 (0, 0)) := by
    rw [set_blk (i := 0) _ X7]
    simp
  have H8 : (w7.setCell ⟨w2.heap.size, 0, none⟩ (.slice a7 R'.length c7)).heap[w.heap.size + 1]? = some (.cells #[.slice none 0 0, .int .i64 0, .bool false, .bool false, .int .i64 0, .int .i64 0, .int .i64 0] 28 (0, 0)) := (Below.heap_setCell _ _ _ _ hne).trans H7
  have HB8 := hid (set_below HB7.out hww 0 (.slice a7 R'.length c7))
  have hR8 := hR7.kept (hR7.far7 X7) (w' := w7.setCell ⟨w2.heap.size, 0, none⟩ (.slice a7 R'.length c7)) (fun j hj => Below.heap_setCell _ _ _ _ hj)
  obtain ⟨w8, hw8⟩ : ∃ w8, w8 = w7.setCell ⟨w2.heap.size, 0, none⟩ (.slice a7 R'.length c7) := ⟨_, rfl⟩
  rw [← hw8] at X8 H8 HB8 hR8
  have HR9 := hid (hR8.kept (hR8.far7 H8) (fun j hj => sets7_far w8 (w.heap.size + 1) (.slice a7 R'.length c7) (.int .i64 (room : Int)) (.bool false) (.bool due2) (.int .i64 o2) (.int .i64 p) (.int .i64 k) j hj))
  have z8 := fun i v (hv : (#[.slice a7 R'.length c7, .int .i64 (room : Int), .bool false, .bool due2, .int .i64 o2, .int .i64 p, .int .i64 k] : Array Value)[i]? = some v) => cell_blk (i := i) X8 hv
  have q0 := z8 0 _ rfl
  have q1 := z8 1 _ rfl
  have q2 := z8 2 _ rfl
  have q3 := z8 3 _ rfl
  have q4 := z8 4 _ rfl
  have q5 := z8 5 _ rfl
  have q6 := z8 6 _ rfl
  have r0 := cell_blk (i := 0) H8 rfl
  have r1 := cell_blk (i := 1) H8 rfl
  have r2 := cell_blk (i := 2) H8 rfl
  have r3 := cell_blk (i := 3) H8 rfl
  have r4 := cell_blk (i := 4) H8 rfl
  have r5 := cell_blk (i := 5) H8 rfl
  have r6 := cell_blk (i := 6) H8 rfl
  have t0 := frz_blk (i := 0) H8
  have t1 := frz_blk (i := 1) H8
  have t2 := frz_blk (i := 2) H8
  have t3 := frz_blk (i := 3) H8
  have t4 := frz_blk (i := 4) H8
  have t5 := frz_blk (i := 5) H8
  have t6 := frz_blk (i := 6) H8
  have HEx := hid (sets7_at H8 (.slice a7 R'.length c7) (.int .i64 (room : Int)) (.bool false) (.bool due2) (.int .i64 o2) (.int .i64 p) (.int .i64 k))
  have HEB := hid (sets7_below HB8.out (Nat.le_succ w.heap.size) (.slice a7 R'.length c7) (.int .i64 (room : Int)) (.bool false) (.bool due2) (.int .i64 o2) (.int .i64 p) (.int .i64 k))
  have HG := hid hG
  have H78 := hid hw8
  clear hR7 hR8 hG hb7 X7 H7 X8 H8 z8
  refine hK.out _ _ trivial (fun _ => ?_)
  clear hK K
  try simp only [Act.put, List.getElem_toArray, List.getElem_cons_succ, List.getElem_cons_zero, List.setIfInBounds_toArray, List.set_cons_zero, List.set_cons_succ]
  refine wpAnyH_take (i := 17) (v := .pointer (some ⟨w2.heap.size, 0, none⟩)) rfl (by kernel_rfl) (by kernel_rfl) (by kernel_rfl) (fun _ _ _ h => h) (Or.inl ⟨by kernel_rfl, fun w hSw => ?_⟩) trivial ?_
  · go_simp
  simp only [Act.put, List.getElem_toArray, List.getElem_cons_succ, List.getElem_cons_zero, List.setIfInBounds_toArray, List.set_cons_zero, List.set_cons_succ]
  refine wpAnyH_ready (rs := [18]) (by kernel_rfl) (by simp) ?_
  refine AllReadyH.cons rfl (fun K hK => ?_) AllReadyH.nil
  go_simp
  rw [← hw8]
  clear hw8
  refine hK.out _ _ trivial (fun _ => ?_)
  clear hK K
  refine wpAnyH_done (by kernel_rfl) ?_ _
  go_wp2
  exact bodyPost_ret (res2 rfl _ _ (w.heap.size + 1) _ rfl HEx.out rfl) rfl ⟨_, rfl, R', HR9.out, HG.out, HEB.out⟩
end
end Go.Proofs.Ytocglenkdjiknaa
