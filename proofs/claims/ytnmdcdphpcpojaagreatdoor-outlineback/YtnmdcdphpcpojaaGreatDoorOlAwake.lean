/- The first look. -/
import Derived.Test.YtnmdcdphpcpojaaGreatDoorTrTP
import Derived.BigQuiet
import Derived.Test.YtnmdcdphpcpojaaGreatDoorOlTm
import Derived.Sort.AtCall
import Derived.Deep.RegionHeld
namespace Go.Proofs.YtnmdcdphpcpojaaGreatDoor
section
set_option linter.unusedVariables false
open Go.Shelf Go.RowKit

set_option maxRecDepth 100000 in
set_option maxHeartbeats 2000000 in
theorem show_any (a : Option Addr) (n c : Nat) (L : List Ln) (m : Int) (w : World) (hs : LnS w a n c L) (hL : ∀ x ∈ L, -9223372036854775808 ≤ x.d ∧ x.d ≤ 100000 ∧ x.t.length ≤ 100000) (hn : n ≤ 1000) (hm : w.cell? ⟨0, 0, none⟩ = some (.int .i64 m)) (h0 : 0 < w.heap.size) :
    Calls Tryz.prog 18 #[.slice a n c] w fun e w' => e = .returned (.string (sB (showL L))) ∧ Below w.heap.size w w' := by
  have hlen := hs.len
  have hcap := hs.cap
  go_enter Tryz.func18, Tryz.ntmps18
  go_wp2
  go_loopw [8] (fun i wr => ∃ k : Nat, k ≤ n ∧ i = .int .i64 k ∧ Bld w.heap.size w.heap.size (Lib.byteCells (showL (L.take k))) wr ∧ Below w.heap.size w wr) (fun i _ => n - (intOf i).toNat)
  case atStart => exact ⟨0, by omega, rfl, new_bld w, (Below.refl _ w).alloc (Nat.le_refl _) _⟩
  case round =>
    obtain ⟨k, hk, rfl, hb, hB⟩ := hrel
    by_cases hlt : k < n
    · have hkl : k < L.length := by omega
      obtain ⟨g, o, rfl, hg, hcell⟩ := (hs.below hB).at_ (by omega)
      have hX := hcell k hkl
      have hLk := hL _ (List.getElem_mem hkl)
      have hts := hid (List.take_succ_eq_append_getElem hkl)
      have hsl := showL_len (L.take k) (fun y hy => (hL y (List.mem_of_mem_take hy)).2)
      rw [List.length_take, Nat.min_eq_left (by omega)] at hsl
      generalize L[k] = x at *
      obtain ⟨⟨x1, x2⟩, xd, xt⟩ := x
      have c0 := hX 0 _ rfl
      have c1 := hX 1 _ rfl
      have c2 := hX 2 _ rfl
      have c3 := hX 3 _ rfl
      simp only [Nat.add_zero] at c0 c1 c2 c3 hLk
      clear hX hcell hL
      go_upto_region 5 with fail
      obtain ⟨W1, hW1⟩ : ∃ W1, W1 = wr.alloc (.cells #[.int .i64 x1, .int .i64 x2, .int .i64 xd, .string ⟨xt.toArray⟩] 54) := ⟨_, rfl⟩
      have hW1b : Below wr.heap.size wr W1 := by rw [hW1]; exact (Below.refl _ wr).alloc (Nat.le_refl _) _
      have hsz1 : W1.heap.size = wr.heap.size + 1 := by rw [hW1]; simp
      have hbk : W1.heap[wr.heap.size]? = some (.cells #[.int .i64 x1, .int .i64 x2, .int .i64 xd, .string ⟨xt.toArray⟩] 54 (0, 0)) := by rw [hW1]; exact World.alloc_heap_new wr _
      have hb1 := bld_below hb hW1b
      rw [← hW1]
      clear hW1
      have hlb := Lib.byteCells_length (showL (L.take k))
      have d2 : ∀ q, (W1.drewN q).cell? ⟨wr.heap.size, 2, none⟩ = some (.int .i64 xd) := fun _ => by show W1.cell? _ = _; rw [Lib.cell_of_heap hbk]; rfl
      have d20 : W1.cell? ⟨wr.heap.size, 2, none⟩ = some (.int .i64 xd) := d2 0
      have hLe : ∀ q, Calls Tryz.prog 44 #[.pointer (some ⟨w.heap.size, 0, none⟩)] (W1.drewN q) fun e w' => e = .returned (.int .i64 (Lib.byteCells (showL (L.take k))).length) ∧ w' = W1.drewN q := fun q => bld_len w.heap.size w.heap.size _ (W1.drewN q) hb1
      rw [hlb] at hLe
      obtain ⟨sl, hslq⟩ : ∃ sl, sl = (showL (L.take k)).length := ⟨_, rfl⟩
      rw [← hslq] at hLe hsl hlb
      have HSL := hid hslq
      clear hslq
      have hcmp : decide ((2147483647 - (sl : Int)) / 2 < xd) = false := by
        simp
        omega
      go_wp2_with fail
      go_quiet (first | (go_at_call 44; exact Calls.quiet_of_same (hLe _)))
      have hB1 : Below w.heap.size w W1 := hB.trans (hW1b.mono hB.size)
      have hbq : Bld w.heap.size w.heap.size (Lib.byteCells (showL (L.take k))) (W1.drewN nq) := hb1
      have hBq : Below w.heap.size w (W1.drewN nq) := hB1.trans (((Far.refl W1).drewN nq).below.mono hB1.size)
      have hbkq : (W1.drewN nq).heap[wr.heap.size]? = some (.cells #[.int .i64 x1, .int .i64 x2, .int .i64 xd, .string ⟨xt.toArray⟩] 54 (0, 0)) := hbk
      have hltq : wr.heap.size < (W1.drewN nq).heap.size := by show _ < W1.heap.size; omega
      generalize W1.drewN nq = W2 at *
      have e2 : W2.cell? ⟨wr.heap.size, 2, none⟩ = some (.int .i64 xd) := by rw [Lib.cell_of_heap hbkq]; rfl
      have e3 : W2.cell? ⟨wr.heap.size, 3, none⟩ = some (.string ⟨xt.toArray⟩) := by rw [Lib.cell_of_heap hbkq]; rfl
      obtain ⟨D, hD⟩ : ∃ D : Nat, D = xd.toNat := ⟨_, rfl⟩
      have HMX : Hid (max xd 0 = (D : Int)) := hid (by omega)
      have hDl : D ≤ 100000 := by omega
      have HD := hid hD
      clear hD hLe d2 d20 hbk
      have hne : wr.heap.size ≠ w.heap.size := by
        have h1 := hB.size
        have h2 : w.heap.size < wr.heap.size := by
          rcases hb with ⟨_, v, h, _⟩ | ⟨_, v, h, _⟩ <;> exact (Array.getElem?_eq_some_iff.1 h).1
        omega
      have kp : ∀ X Y : World, X.heap[wr.heap.size]? = some (.cells #[.int .i64 x1, .int .i64 x2, .int .i64 xd, .string ⟨xt.toArray⟩] 54 (0, 0)) → Lib.OthersKept 5 (some w.heap.size) X Y → Y.heap[wr.heap.size]? = some (.cells #[.int .i64 x1, .int .i64 x2, .int .i64 xd, .string ⟨xt.toArray⟩] 54 (0, 0)) := fun X Y h1 h2 => h2 _ _ h1 (fun e => hne (by first | exact Option.some.inj e | exact (Option.some.inj e).symm | exact e)) (fun c' fz' e => by cases e)
      have hel := esc_len xt
      obtain ⟨S0, hS0⟩ : ∃ S0, S0 = Lib.byteCells (showL (L.take k)) := ⟨_, rfl⟩
      have HS0 := hid hS0
      rw [← hS0] at hbq hlb
      obtain ⟨sp, hsp⟩ : ∃ sp, sp = sB (List.replicate (2 * D) 32) := ⟨_, rfl⟩
      have HSP := hid hsp
      have hspl : sp.size ≤ 2 * D := by rw [hsp, sB_size, List.length_replicate]; exact Nat.le_refl _
      obtain ⟨xe, hxe⟩ : ∃ xe, xe = sB (esc xt) := ⟨_, rfl⟩
      have HXE := hid hxe
      have hxel : xe.size ≤ 2 * xt.length := by rw [hxe, sB_size]; exact hel
      have HREP : ∀ W, Calls Tryz.prog 46 #[.string ⟨#[32, 32]⟩, .int .i64 D] W fun e w' => e = .returned (.string sp) ∧ Below W.heap.size W w' := fun W => by
        have := repeat_any [32, 32] D W (by omega) (by decide)
        rw [rep_two, ← hsp] at this
        exact this
      have HESC : ∀ W, W.cell? ⟨0, 0, none⟩ = some (.int .i64 m) → 0 < W.heap.size → Calls Tryz.prog 47 #[.string ⟨xt.toArray⟩] W fun e w' => e = .returned (.string xe) ∧ Below W.heap.size W w' := fun W h1 h2 => by
        have := escaped_any xt m W (by omega) h1 h2
        rw [← hxe] at this
        exact this
      clear hsp hxe hS0
      go_upto_region 8 with (first
        | (go_at_call 46; rw [HMX.out]; refine (HREP _).mono ?_; rintro e w3 ⟨rfl, hB3⟩; have hb3 := bld_below hbq hB3; have hBw3 := hBq.trans (hB3.mono hBq.size); have hk3 := (hB3.block _ hltq).trans hbkq)
        | (go_at_call 45; refine (write_string w.heap.size w.heap.size S0 sp w3 hb3 (by omega) hBw3.size).mono ?_; rintro e w4 ⟨rfl, hb4, hB4, hK4⟩; have hk4 := kp _ _ hk3 hK4; have hBw4 := hBw3.trans hB4))
      obtain ⟨S1, hS1⟩ : ∃ S1, S1 = S0 ++ Lib.strCells sp := ⟨_, rfl⟩
      have HS1 := hid hS1
      have hl1 : S1.length ≤ sl + 2 * D := by rw [hS1, List.length_append, Lib.strCells_length]; omega
      rw [← hS1] at hb4
      clear hS1 hb3 hB3 hB4 hK4 hk3 hbq
      go_upto_region 9 with (go_at_call 45; refine (write_string w.heap.size w.heap.size S1 ⟨#[45, 32]⟩ w4 (Or.inr hb4) (by show S1.length + 2 ≤ _; omega) hBw4.size).mono ?_; rintro e w5 ⟨rfl, hb5, hB5, hK5⟩)
      have hk5 := kp _ _ hk4 hK5
      have hBw5 := hBw4.trans hB5
      have e5 : w5.cell? ⟨wr.heap.size, 3, none⟩ = some (.string ⟨xt.toArray⟩) := by rw [Lib.cell_of_heap hk5]; rfl
      have hm5 : w5.cell? ⟨0, 0, none⟩ = some (.int .i64 m) := by rw [hBw5.cell (by simpa using h0)]; exact hm
      obtain ⟨S2, hS2⟩ : ∃ S2, S2 = S1 ++ Lib.strCells ⟨#[45, 32]⟩ := ⟨_, rfl⟩
      have HS2 := hid hS2
      have hl2 : S2.length ≤ sl + 2 * D + 2 := by rw [hS2, List.length_append]; exact Nat.add_le_add_right hl1 2
      rw [← hS2] at hb5
      have hz5 : 0 < w5.heap.size := by have := hBw5.size; omega
      clear hS2 hb4 hB5 hK5 hk4
      go_upto_region 10 with (first
        | (go_at_call 47; refine (HESC w5 hm5 hz5).mono ?_; rintro e w6 ⟨rfl, hB6⟩; have hb6 := bld_below (Or.inr hb5) hB6; have hBw6 := hBw5.trans (hB6.mono hBw5.size))
        | (go_at_call 45; refine (write_string w.heap.size w.heap.size S2 xe w6 hb6 (by omega) hBw6.size).mono ?_; rintro e w7 ⟨rfl, hb7, hB7, hK7⟩))
      have hBw7 := hBw6.trans hB7
      obtain ⟨S3, hS3⟩ : ∃ S3, S3 = S2 ++ Lib.strCells xe := ⟨_, rfl⟩
      have HS3 := hid hS3
      have hl3 : S3.length ≤ sl + 2 * D + 2 + 2 * xt.length := by rw [hS3, List.length_append, Lib.strCells_length]; omega
      rw [← hS3] at hb7
      clear hS3 hb5 hb6 hB6 hB7 hK7
      go_wp2_with (go_at_call 48; refine (write_byte w.heap.size w.heap.size S3 10 w7 (Or.inr hb7) (by omega) hBw7.size).mono ?_; rintro e w8 ⟨rfl, hb8, hB8, hK8⟩; have hBw8 := hBw7.trans hB8)
      go_roundw
      case rel =>
        refine ⟨k + 1, by omega, by go_num, ?_, hBw8⟩
        rw [hts.out, showL_snoc]
        have e : Lib.byteCells (showL (L.take k) ++ Ln.sh ⟨(x1, x2), xd, xt⟩) = S3 ++ [.int .u8 10] := by
          rw [HS3.out, HS2.out, HS1.out, HS0.out, HSP.out, HXE.out]
          simp only [strCells_sB, Ln.sh, lnB, HD.out, Lib.byteCells, List.map_append, List.map_cons, List.map_nil, List.append_assoc, List.cons_append, List.nil_append]
          rfl
        rw [e]
        exact Or.inr hb8
      case measure => simp [intOf]; omega
    · obtain rfl : k = n := by omega
      have hB0 := hB
      rw [← hlen, List.take_length] at hb
      go_wp2_with (go_at_call 49; refine (bld_string w.heap.size w.heap.size (showL L) _ hb hB.size).mono ?_; rintro e w3 ⟨rfl, _, hB3, _⟩)
      go_ret
      exact ⟨rfl, hB.trans hB3⟩
end

section
set_option linter.unusedVariables false
open Go.RowKit

def awA : Mv := ⟨(1, 1), 1, (1, 1), (0, -1), ⟨#[110]⟩⟩
def awB : Mv := ⟨(1, 2), 2, (1, 2), (1, 1), ⟨#[110]⟩⟩
theorem aw_1 : mvE [] awA = 0 ∧ mvL [] awA = [awA] := by
  have h : mvE [] awA = 0 := by decide +kernel
  refine ⟨h, ?_⟩
  unfold mvL
  rw [if_pos h]
  have hr : rkL mvl [] awA = 0 := by decide +kernel
  unfold insL
  rw [hr]
  rfl
theorem aw_2 : mvE [awA] awB = 0 ∧ mvL [awA] awB = [awA, awB] := by
  have h : mvE [awA] awB = 0 := by decide +kernel
  refine ⟨h, ?_⟩
  unfold mvL
  rw [if_pos h]
  have hr : rkL mvl [awA] awB = 1 := by decide +kernel
  unfold insL
  rw [hr]
  rfl
end

section
set_option linter.unusedVariables false
open Go.RowKit

def oaT : List Cr := [⟨(1, 3), (0, 0), true, 121, true⟩]
def oaσ (d : Dt) : List UInt8 := if d = (1, 2) then [121] else []
def oaL : List Ln := [⟨(1, 1), 0, []⟩, ⟨(1, 2), 1, [121]⟩]

theorem oa1 : insP [] (1, 3) (0, 0) 1 121 = (0, oaT) := by simp [insP, mayI, oaT]
theorem oa2 : strB (seenC oaT) = [121] := by decide +kernel
theorem oa3 : kidD (run [awA, awB]) (0, -1) = [(1, 1)] := by decide +kernel
theorem oa4 : kidD (run [awA, awB]) (1, 1) = [(1, 2)] := by decide +kernel
theorem oa5 : kidD (run [awA, awB]) (1, 2) = [] := by decide +kernel
theorem oa6 : (run [awA, awB]).length = 2 := by decide +kernel
theorem oa7 : undL (run [awA, awB]) oaσ (0, -1) = oaL := by
  unfold undL
  rw [oa6]
  simp [undF, oa3, oa4, oa5, undLn, oaL, oaσ]
theorem oa8 : showL oaL = [45, 32, 10, 32, 32, 45, 32, 121, 10] := by decide +kernel
theorem oa9 : rdR [45, 32, 10, 32, 32, 45, 32, 121, 10] = some [(0, []), (1, [121])] := by decide +kernel
theorem oa10 : rdR [32, 32, 45, 32, 121, 10] = none := by decide +kernel
theorem oa11 : rdM [45, 32, 10, 32, 32, 45, 32, 121, 10] = [⟨(0, 0), 0, []⟩, ⟨(0, 0), 1, [121]⟩] ∧ rdE [45, 32, 10, 32, 32, 45, 32, 121, 10] = 0 := by
  unfold rdM rdE
  rw [oa9]
  exact ⟨rfl, rfl⟩
theorem oa12 : rdM [32, 32, 45, 32, 121, 10] = [] ∧ rdE [32, 32, 45, 32, 121, 10] = 11 := by
  unfold rdM rdE
  rw [oa10]
  exact ⟨rfl, rfl⟩
end

section
set_option linter.unusedVariables false
set_option linter.unusedSimpArgs false
open Go.RowKit

theorem tp_far {W W' : World} {t : Nat} {l : List Mv} {P Q : Nat → Prop} {X4 : World} (h : TP W t l P ∧ KP Q X4 W) (hq : ∀ j, Q j → P j) (hf : Far W W') : TP W' t l P ∧ KP Q X4 W' :=
  ⟨h.1.below hf.below, h.2.trans (KP.below hf.below (fun j hj => h.1.lt j (hq j hj)))⟩
end

section
set_option linter.unusedVariables false
set_option linter.unusedSimpArgs false
open Go.RowKit

set_option maxRecDepth 100000 in
set_option maxHeartbeats 4000000 in
theorem olawake_any (m : Int) (w : World) (hm : w.cell? ⟨0, 0, none⟩ = some (.int .i64 m)) (h0 : 0 < w.heap.size) : Calls Tryz.prog 9 #[] w fun e w' => e = .returned (.bool true) ∧ Below w.heap.size w w' := by
  have hmxo : Tryz.prog.follows .mixedOrders = true := by kernel_rfl
  have mixed := mixed
  obtain ⟨t, ht⟩ : ∃ t, t = w.heap.size := ⟨_, rfl⟩
  have HN := (new_tp w).mono (R' := fun e w' => e = .returned (.pointer (some ⟨t, 0, none⟩)) ∧ Hid (TP w' t [] (fun j => j < w.heap.size) ∧ Below w.heap.size w w')) (fun e w' h => by rw [ht]; exact ⟨h.1, hid h.2⟩)
  clear ht
  go_enter Tryz.func9, Tryz.ntmps9
  go_upto_region 4 with (go_at_call 27; refine HN.mono ?_; rintro e X ⟨rfl, HX⟩)
  clear HN
  obtain ⟨X2, hX2⟩ : ∃ X2, X2 = (X.alloc (.cells #[.int .i64 1, .int .i64 1] 24)).alloc (.cells #[.int .i64 1, .int .i64 2] 24) := ⟨_, rfl⟩
  rw [← hX2]
  obtain ⟨qa, hqa⟩ : ∃ qa, qa = X.heap.size := ⟨_, rfl⟩
  have hz2 : X2.heap.size = qa + 2 := by rw [hX2, hqa]; simp
  have hb2 : Below X.heap.size X X2 := by rw [hX2]; exact ((Below.refl _ X).alloc (Nat.le_refl _) _).alloc (by simp) _
  have ba : X2.heap[qa]? = some (.cells #[.int .i64 1, .int .i64 1] 24 (0, 0)) := by rw [hX2, hqa]; exact (Below.heap_alloc _ _ _ (by simp)).trans (World.alloc_heap_new X _)
  have bb : X2.heap[qa + 1]? = some (.cells #[.int .i64 1, .int .i64 2] 24 (0, 0)) := by
    rw [hX2, hqa]
    have := World.alloc_heap_new (X.alloc (.cells #[.int .i64 1, .int .i64 1] 24)) (.cells #[.int .i64 1, .int .i64 2] 24)
    rw [World.size_alloc] at this
    exact this
  obtain ⟨Q, hQ⟩ : ∃ Q : Nat → Prop, Q = (fun j => j < w.heap.size ∨ (qa ≤ j ∧ j < qa + 2)) := ⟨_, rfl⟩
  have HC : Hid (∀ V, KP Q X2 V → V.cell? ⟨qa, 0, none⟩ = some (.int .i64 1) ∧ V.cell? ⟨qa, 1, none⟩ = some (.int .i64 1) ∧ V.cell? ⟨qa + 1, 0, none⟩ = some (.int .i64 1) ∧ V.cell? ⟨qa + 1, 1, none⟩ = some (.int .i64 2)) := hid (fun V hV => by
    have e0 := (hV.keep qa (by rw [hQ]; exact Or.inr ⟨by omega, by omega⟩)).trans ba
    have e1 := (hV.keep (qa + 1) (by rw [hQ]; exact Or.inr ⟨by omega, by omega⟩)).trans bb
    exact ⟨by rw [Lib.cell_of_heap e0]; rfl, by rw [Lib.cell_of_heap e0]; rfl, by rw [Lib.cell_of_heap e1]; rfl, by rw [Lib.cell_of_heap e1]; rfl⟩)
  have S2 : Hid (TP X2.drew t [] Q ∧ KP Q X2 X2.drew) := hid ⟨(HX.out.1.turn (V := X2) (Q := Q) hb2.size (fun j hj _ => hb2.block j hj) (fun j hj => by
    rw [hQ] at hj
    rcases hj with hj | hj
    · exact Or.inl hj
    · exact Or.inr ⟨by omega, by omega⟩)).drew, (KP.refl Q X2).drew⟩
  have HE : Hid (∀ V, KP Q X2 V → Below w.heap.size w V) := hid (fun V hV => by
    have k1 : KP (fun j => j < w.heap.size) X2 V := hV.mono (fun j hj => by rw [hQ]; exact Or.inl hj)
    exact HX.out.2.trans ((hb2.mono HX.out.2.size).trans k1.bel))
  have HQ : Hid (∀ j, Q j → j < qa + 2) := hid (fun j hj => by
    rw [hQ] at hj
    rcases hj with hj | hj
    · have := HX.out.2.size; omega
    · omega)
  have HQW : Hid (∀ j, j < w.heap.size → Q j) := hid (fun j hj => by rw [hQ]; exact Or.inl hj)
  have HQA : Hid (Q qa ∧ Q (qa + 1)) := hid (by rw [hQ]; exact ⟨Or.inr ⟨by omega, by omega⟩, Or.inr ⟨by omega, by omega⟩⟩)
  have HRo : Hid (∀ W l, (TP W t l Q ∧ KP Q X2 W) → Calls Tryz.prog 12 #[] W fun e W' => e = .returned (.agg #[.int .i64 0, .int .i64 (-1)]) ∧ Hid (TP W' t l Q ∧ KP Q X2 W')) := hid (fun W l h => (root_any W).mono (fun e W' g => ⟨g.1, hid (tp_far h (fun j hj => hj) g.2)⟩))
  have HM1 : Hid (∀ W, (TP W t [] Q ∧ KP Q X2 W) → Calls Tryz.prog 28 #[.pointer (some ⟨t, 0, none⟩), .agg #[.int .i64 1, .int .i64 1], .int .i64 1, .agg #[.int .i64 1, .int .i64 1], .agg #[.int .i64 0, .int .i64 (-1)], .string ⟨#[110]⟩] W fun e W' => e = .returned (.int .i64 0) ∧ Hid (TP W' t [awA] Q ∧ KP Q X2 W')) := hid (fun W h => by
    have := move_tp awA h.1 ⟨⟨rfl, rfl⟩, ⟨rfl, rfl⟩, ⟨rfl, rfl⟩⟩ (by decide)
    rw [aw_1.1, aw_1.2] at this
    exact this.mono (fun e W' g => ⟨g.1, hid ⟨g.2.1, h.2.trans g.2.2⟩⟩))
  have HM2 : Hid (∀ W, (TP W t [awA] Q ∧ KP Q X2 W) → Calls Tryz.prog 28 #[.pointer (some ⟨t, 0, none⟩), .agg #[.int .i64 1, .int .i64 2], .int .i64 2, .agg #[.int .i64 1, .int .i64 2], .agg #[.int .i64 1, .int .i64 1], .string ⟨#[110]⟩] W fun e W' => e = .returned (.int .i64 0) ∧ Hid (TP W' t [awA, awB] Q ∧ KP Q X2 W')) := hid (fun W h => by
    have := move_tp awB h.1 ⟨⟨rfl, rfl⟩, ⟨rfl, rfl⟩, ⟨rfl, rfl⟩⟩ (by decide)
    rw [aw_2.1, aw_2.2] at this
    exact this.mono (fun e W' g => ⟨g.1, hid ⟨g.2.1, h.2.trans g.2.2⟩⟩))
  have hS0 := HC.out _ S2.out.2
  have HB1 : Hid (qa + 1 = X.heap.size + 1) := hid (by rw [hqa])
  have HQE := hid hqa
  rw [← hqa]
  clear hX2 hQ hz2 hb2 ba bb HX hqa
  refine wp_region_held_drew (S := fun w' => w'.cell? ⟨qa, 0, none⟩ = some (.int .i64 1) ∧ w'.cell? ⟨qa, 1, none⟩ = some (.int .i64 1) ∧ w'.cell? ⟨qa + 1, 0, none⟩ = some (.int .i64 1) ∧ w'.cell? ⟨qa + 1, 1, none⟩ = some (.int .i64 2)) hmxo hS0 ?_
  intro _
  refine wpAnyH_take (i := 0) (v := .pointer (some ⟨t, 0, none⟩)) rfl (by kernel_rfl) (by kernel_rfl) (by kernel_rfl) (fun _ _ _ h => h) (Or.inl ⟨by kernel_rfl, fun w hSw => ?_⟩) hS0 ?_
  · obtain ⟨e1, e2, e3, e4⟩ := hSw; go_simp
  simp only [Act.put, List.getElem_toArray, List.getElem_cons_succ, List.getElem_cons_zero, List.setIfInBounds_toArray, List.set_cons_zero, List.set_cons_succ]
  refine wpAnyH_take (i := 1) (v := .agg #[.int .i64 1, .int .i64 1]) rfl (by kernel_rfl) (by kernel_rfl) (by kernel_rfl) (fun _ _ _ h => h) (Or.inl ⟨by kernel_rfl, fun w hSw => ?_⟩) hS0 ?_
  · obtain ⟨e1, e2, e3, e4⟩ := hSw; go_simp
  simp only [Act.put, List.getElem_toArray, List.getElem_cons_succ, List.getElem_cons_zero, List.setIfInBounds_toArray, List.set_cons_zero, List.set_cons_succ]
  refine wpAnyH_take (i := 2) (v := .agg #[.int .i64 1, .int .i64 1]) rfl (by kernel_rfl) (by kernel_rfl) (by kernel_rfl) (fun _ _ _ h => h) (Or.inl ⟨by kernel_rfl, fun w hSw => ?_⟩) hS0 ?_
  · obtain ⟨e1, e2, e3, e4⟩ := hSw; go_simp
  simp only [Act.put, List.getElem_toArray, List.getElem_cons_succ, List.getElem_cons_zero, List.setIfInBounds_toArray, List.set_cons_zero, List.set_cons_succ]
  refine wpAnyH_ready (rs := [3]) (by kernel_rfl) (by simp) ?_
  refine AllReadyH.cons rfl (fun K hK => ?_) AllReadyH.nil
  go_simp
  refine (HRo.out _ _ S2.out).mono ?_
  rintro e Y1 ⟨rfl, S3⟩
  have hS3 := HC.out _ S3.out.2
  refine hK.out _ _ hS3 (fun _ => ?_)
  clear hK K
  refine wpAnyH_ready (rs := [4]) (by kernel_rfl) (by simp) ?_
  refine AllReadyH.cons rfl (fun K hK => ?_) AllReadyH.nil
  go_simp
  refine (HM1.out _ S3.out).mono ?_
  rintro e Y2 ⟨rfl, S4⟩
  have hS4 := HC.out _ S4.out.2
  refine hK.out _ _ hS4 (fun _ => ?_)
  clear hK K
  refine wpAnyH_done (by kernel_rfl) ?_ _
  clear HRo HM1 hS0 hS3 S2 S3
  obtain ⟨e1, e2, e3, e4⟩ := hS4
  go_upto_region 6 with (go_at_call 28; refine (HM2.out _ S4.out).mono ?_; rintro e Y3 ⟨rfl, S5⟩)
  clear HM2 S4 e1 e2 e3 e4
  obtain ⟨x0, hx0⟩ : ∃ x0, x0 = Y3.heap.size := ⟨_, rfl⟩
  have HT1 : Calls Tryz.prog 25 #[] Y3 fun e Y4 => e = .returned (.pointer (some ⟨x0, 0, none⟩)) ∧ Hid (TM Y4 x0 [] ∧ Below Y3.heap.size Y3 Y4) := (new_tm Y3).mono (fun e Y4 g => by rw [hx0]; exact ⟨g.1, hid g.2⟩)
  have HT2 : ∀ Y4, (TM Y4 x0 [] ∧ Below Y3.heap.size Y3 Y4) → Calls Tryz.prog 26 #[.pointer (some ⟨x0, 0, none⟩), .agg #[.int .i64 1, .int .i64 3], .agg #[.int .i64 0, .int .i64 0], .int .i64 1, .int .i64 121] Y4 fun e Y5 => e = .returned (.int .i64 0) ∧ Hid (TM Y5 x0 oaT ∧ FrW x0 Y4 Y5 ∧ Below Y3.heap.size Y3 Y4) := fun Y4 h => by
    have := insert_tm h.1 (by decide) (1, 3) (0, 0) 1 121 ⟨rfl, rfl⟩ ⟨rfl, rfl⟩ ⟨by decide, by decide⟩
    rw [oa1] at this
    exact this.mono (fun e Y5 g => ⟨g.1, hid ⟨g.2.1, g.2.2, h.2⟩⟩)
  have HX0 := hid hx0
  clear hx0
  go_upto_region 8 with (first
    | (go_at_call 25; refine HT1.mono ?_; rintro e Y4 ⟨rfl, S6⟩)
    | (go_at_call 26; refine (HT2 _ S6.out).mono ?_; rintro e Y5 ⟨rfl, S7⟩))
  clear HT1 HT2 S6
  obtain ⟨R, hR⟩ : ∃ R : Nat → Prop, R = (fun j => Q j ∨ (x0 ≤ j ∧ j < Y5.heap.size)) := ⟨_, rfl⟩
  have hold : ∀ j, j < x0 → Y5.heap[j]? = Y3.heap[j]? := fun j hj => by
    obtain ⟨_, f1, f2⟩ := S7.out
    have h3 := HX0.out
    exact (f1.block j (by have := f2.size; omega) (Or.inl hj)).trans (f2.block j (by omega))
  have hz5 : x0 ≤ Y5.heap.size := by
    obtain ⟨_, f1, f2⟩ := S7.out
    have h3 := HX0.out
    have := f1.size
    have := f2.size
    omega
  have hT5 : TP Y5 t [awA, awB] R := S5.out.1.turn (by rw [← HX0.out]; exact hz5) (fun j hj _ => hold j (by rw [HX0.out]; exact hj)) (fun j hj => by
    rw [hR] at hj
    rcases hj with hj | hj
    · exact Or.inl hj
    · exact Or.inr ⟨by rw [← HX0.out]; exact hj.1, hj.2⟩)
  have hK35 : KP Q Y3 Y5 := by
    obtain ⟨_, f1, f2⟩ := S7.out
    exact ⟨by rw [← HX0.out]; exact hz5, fun j hj => hold j (by rw [HX0.out]; exact S5.out.1.lt j hj), (Sm.b f2).trans ⟨f1.os, f1.tape, f1.output⟩⟩
  have HKX : Hid (KP Q X2 Y5) := hid (S5.out.2.trans hK35)
  have HRQ : Hid (∀ j, Q j → R j) := hid (fun j hj => by rw [hR]; exact Or.inl hj)
  have HS : Hid (∀ V, KP R Y5 V → V.cell? ⟨qa + 1, 0, none⟩ = some (.int .i64 1) ∧ V.cell? ⟨qa + 1, 1, none⟩ = some (.int .i64 2)) := hid (fun V hV => by
    obtain ⟨_, _, e3, e4⟩ := HC.out V (HKX.out.trans (hV.mono HRQ.out))
    exact ⟨e3, e4⟩)
  have HTM : Hid (∀ V, KP R Y5 V → TM V x0 oaT) := hid (fun V hV => S7.out.1.held (fun j h1 h2 => hV.keep j (by rw [hR]; exact Or.inr ⟨h1, h2⟩)))
  have HRl : Hid (∀ j, R j → j < Y5.heap.size) := hid hT5.lt
  have J0 : Hid (TP Y5.drew t [awA, awB] R ∧ KP R Y5 Y5.drew) := hid ⟨hT5.drew, (KP.refl R Y5).drew⟩
  have HRo0 : Hid (∀ V, (TP V t [awA, awB] R ∧ KP R Y5 V) → Calls Tryz.prog 12 #[] V fun e V' => e = .returned (.agg #[.int .i64 0, .int .i64 (-1)]) ∧ (V'.cell? ⟨qa + 1, 0, none⟩ = some (.int .i64 1) ∧ V'.cell? ⟨qa + 1, 1, none⟩ = some (.int .i64 2)) ∧ Hid (TP V' t [awA, awB] R ∧ KP R Y5 V')) := hid (fun V h => (root_any V).mono (fun e V' g => by
    have := tp_far h (fun j hj => hj) g.2
    exact ⟨g.1, HS.out _ this.2, hid this⟩))
  have HRo1 : Hid (∀ V mb n G, (TP V t [awA, awB] (fun j => R j ∨ j = mb) ∧ KP R Y5 V ∧ PMc V mb n G) → Calls Tryz.prog 12 #[] V fun e V' => e = .returned (.agg #[.int .i64 0, .int .i64 (-1)]) ∧ (V'.cell? ⟨qa + 1, 0, none⟩ = some (.int .i64 1) ∧ V'.cell? ⟨qa + 1, 1, none⟩ = some (.int .i64 2)) ∧ Hid (TP V' t [awA, awB] (fun j => R j ∨ j = mb) ∧ KP R Y5 V' ∧ PMc V' mb n G)) := hid (fun V mb n G h => (root_any V).mono (fun e V' g => by
    have := tp_far ⟨h.1, h.2.1⟩ (fun j hj => Or.inl hj) g.2
    exact ⟨g.1, HS.out _ this.2, hid ⟨this.1, this.2, h.2.2.same (g.2.below.block _ h.2.2.lt)⟩⟩))
  have HMk : Hid (∀ V, (TP V t [awA, awB] R ∧ KP R Y5 V) → (TP (V.alloc (.map #[] 0)) t [awA, awB] (fun j => R j ∨ j = V.heap.size) ∧ KP R Y5 (V.alloc (.map #[] 0)) ∧ PMc (V.alloc (.map #[] 0)) V.heap.size 0 (fun _ => none)) ∧ ((V.alloc (.map #[] 0)).cell? ⟨qa + 1, 0, none⟩ = some (.int .i64 1) ∧ (V.alloc (.map #[] 0)).cell? ⟨qa + 1, 1, none⟩ = some (.int .i64 2))) := hid (fun V h => by
    have hk : KP R Y5 (V.alloc (.map #[] 0)) := h.2.trans (KP.below ((Below.refl _ V).alloc (Nat.le_refl _) _) h.1.lt)
    exact ⟨⟨h.1.alloc _, hk, PMc.made V⟩, HS.out _ hk⟩)
  have HIn : Hid (∀ V mb, (TP V t [awA, awB] (fun j => R j ∨ j = mb) ∧ KP R Y5 V ∧ PMc V mb 0 (fun _ => none)) → Y5.heap.size ≤ mb → ∃ V', (Instr.mapUpdate 29 (.map (some mb)) (.agg #[.int .i64 1, .int .i64 2]) (.pointer (some ⟨x0, 0, none⟩))).run Tryz.prog V = .ok () V' ∧ (V'.cell? ⟨qa + 1, 0, none⟩ = some (.int .i64 1) ∧ V'.cell? ⟨qa + 1, 1, none⟩ = some (.int .i64 2)) ∧ Hid (TP V' t [awA, awB] (fun j => R j ∨ j = mb) ∧ KP R Y5 V' ∧ PMc V' mb (0 + 1) (fun e => if e = (1, 2) then some x0 else none))) := hid (fun V mb h hmb => by
    obtain ⟨V', h1, h2, h3⟩ := h.2.2.putT (d := (1, 2)) ⟨rfl, rfl⟩ x0 (by unfold maxLen; omega)
    have hk : KP R V V' := ⟨h3.size, fun j hj => h3.block j (h.1.lt j (Or.inl hj)) (fun e => by cases e; have := HRl.out _ hj; omega), Sm.g h3⟩
    have hk2 := h.2.1.trans hk
    refine ⟨V', h1, HS.out _ hk2, hid ⟨h.1.turn h3.size (fun j hj hn => h3.block j hj (fun e => by cases e; exact hn (Or.inr rfl))) (fun j hj => Or.inl hj), hk2, h2⟩⟩)
  have HUn : Hid (∀ V mb, (TP V t [awA, awB] (fun j => R j ∨ j = mb) ∧ KP R Y5 V ∧ PMc V mb (0 + 1) (fun e => if e = (1, 2) then some x0 else none)) → Calls Tryz.prog 15 #[.pointer (some ⟨t, 0, none⟩), .map (some mb), .agg #[.int .i64 0, .int .i64 (-1)]] V fun e V' => ∃ a c, e = .returned (.slice a 2 c) ∧ (V'.cell? ⟨qa + 1, 0, none⟩ = some (.int .i64 1) ∧ V'.cell? ⟨qa + 1, 1, none⟩ = some (.int .i64 2)) ∧ Hid (LnS V' a 2 c oaL ∧ Below w.heap.size w V')) := hid (fun V mb h => by
    have hx : XP (fun j => R j ∨ j = mb) V (.map (some mb)) oaσ := XP.of h.2.2 (Or.inr rfl) (T := fun _ => oaT) (fun d g hd hg => by
      by_cases e : d = (1, 2)
      · rw [if_pos e] at hg
        cases hg
        refine ⟨by decide, ?_, fun V' hV' => HTM.out V' (h.2.1.trans (hV'.mono (fun j hj => Or.inl hj)))⟩
        unfold oaσ
        rw [if_pos e, oa2]
      · rw [if_neg e] at hg
        cases hg) (fun d hd hg => by
      by_cases e : d = (1, 2)
      · rw [if_pos e] at hg; cases hg
      · unfold oaσ; rw [if_neg e])
    have := under_any t [awA, awB] (some mb) oaσ (fun j => R j ∨ j = mb) (0, -1) V h.1 hx ⟨rfl, rfl⟩
    rw [oa7] at this
    refine this.mono ?_
    rintro e V' ⟨v, rfl, ho, _, hk⟩
    obtain ⟨a, c, rfl, hL⟩ := own_lns ho
    have hk2 := h.2.1.trans (hk.mono (fun j hj => Or.inl hj))
    exact ⟨a, c, rfl, HS.out _ hk2, hid ⟨hL, HE.out _ (HKX.out.trans (hk2.mono HRQ.out))⟩⟩)
  have hmk := @run_makeMap Tryz.prog
  have hS0 := HS.out _ J0.out.2
  have HMB0 : Hid (∀ V, KP R Y5 V → Y5.heap.size ≤ V.heap.size) := hid (fun V h => h.size)
  clear hR hold hz5 hT5 hK35 S5 HC HQ HQW HQA HB1 HQE
  refine wp_region_held_drew (S := fun w' => w'.cell? ⟨qa + 1, 0, none⟩ = some (.int .i64 1) ∧ w'.cell? ⟨qa + 1, 1, none⟩ = some (.int .i64 2)) hmxo hS0 ?_
  intro _
  obtain ⟨Yd, hYd⟩ : ∃ Yd, Yd = Y5.drew := ⟨_, rfl⟩
  rw [← hYd] at hS0 J0 ⊢
  clear hYd
  refine wpAnyH_take (i := 0) (v := .pointer (some ⟨t, 0, none⟩)) rfl (by kernel_rfl) (by kernel_rfl) (by kernel_rfl) (fun _ _ _ h => h) (Or.inl ⟨by kernel_rfl, fun w hSw => ?_⟩) hS0 ?_
  · obtain ⟨e1, e2⟩ := hSw; go_simp
  simp only [Act.put, List.getElem_toArray, List.getElem_cons_succ, List.getElem_cons_zero, List.setIfInBounds_toArray, List.set_cons_zero, List.set_cons_succ]
  refine wpAnyH_take (i := 2) (v := .agg #[.int .i64 1, .int .i64 2]) rfl (by kernel_rfl) (by kernel_rfl) (by kernel_rfl) (fun _ _ _ h => h) (Or.inl ⟨by kernel_rfl, fun w hSw => ?_⟩) hS0 ?_
  · obtain ⟨e1, e2⟩ := hSw; go_simp
  simp only [Act.put, List.getElem_toArray, List.getElem_cons_succ, List.getElem_cons_zero, List.setIfInBounds_toArray, List.set_cons_zero, List.set_cons_succ]
  refine wpAnyH_take (i := 3) (v := .pointer (some ⟨x0, 0, none⟩)) rfl (by kernel_rfl) (by kernel_rfl) (by kernel_rfl) (fun _ _ _ h => h) (Or.inl ⟨by kernel_rfl, fun w hSw => ?_⟩) hS0 ?_
  · obtain ⟨e1, e2⟩ := hSw; go_simp
  simp only [Act.put, List.getElem_toArray, List.getElem_cons_succ, List.getElem_cons_zero, List.setIfInBounds_toArray, List.set_cons_zero, List.set_cons_succ]
  refine wpAnyH_ready (rs := [1, 6]) (by kernel_rfl) (by simp) ?_
  refine AllReadyH.cons rfl (fun K hK => ?_) (AllReadyH.cons rfl (fun K hK => ?_) AllReadyH.nil)
  · go_simp
    obtain ⟨M1, M1S⟩ := HMk.out _ J0.out
    have M1H := hid M1
    obtain ⟨mb, hmb⟩ : ∃ mb, mb = (Yd).heap.size := ⟨_, rfl⟩
    have HMB := hid hmb
    have HMG : Hid (Y5.heap.size ≤ mb) := hid (by rw [hmb]; exact HMB0.out _ J0.out.2)
    refine hK.out _ _ M1S (fun _ => ?_)
    clear hK K
    rw [← hmb] at M1 ⊢
    clear hmb M1H
    have M1J := hid M1
    clear M1
    refine wpAnyH_ready (rs := [4, 6]) (by kernel_rfl) (by simp) ?_
    refine AllReadyH.cons rfl (fun K hK => ?_) (AllReadyH.cons rfl (fun K hK => ?_) AllReadyH.nil)
    · obtain ⟨I2V, I2r, I2S, I2J⟩ := HIn.out _ mb M1J.out HMG.out
      go_simp
      refine hK.out _ _ I2S (fun _ => ?_)
      clear hK K
      refine wpAnyH_take (i := 5) (v := .map (some mb)) rfl (by kernel_rfl) (by kernel_rfl) (by kernel_rfl) (fun _ _ _ h => h) (Or.inl ⟨by kernel_rfl, fun w hSw => ?_⟩) I2S ?_
      · obtain ⟨e1, e2⟩ := hSw; go_simp
      simp only [Act.put, List.getElem_toArray, List.getElem_cons_succ, List.getElem_cons_zero, List.setIfInBounds_toArray, List.set_cons_zero, List.set_cons_succ]
      refine wpAnyH_ready (rs := [6]) (by kernel_rfl) (by simp) ?_
      refine AllReadyH.cons rfl (fun K hK => ?_) AllReadyH.nil
      go_simp
      refine (HRo1.out _ mb _ _ I2J.out).mono ?_
      rintro e N3V ⟨rfl, N3S, N3J⟩
      refine hK.out _ _ N3S (fun _ => ?_)
      clear hK K
      refine wpAnyH_ready (rs := [7]) (by kernel_rfl) (by simp) ?_
      refine AllReadyH.cons rfl (fun K hK => ?_) AllReadyH.nil
      go_simp
      refine (HUn.out _ mb N3J.out).mono ?_
      rintro e V8 ⟨a, c, rfl, V8S, V8J⟩
      refine hK.out _ _ V8S (fun _ => ?_)
      clear hK K
      refine wpAnyH_take (i := 8) (v := .slice a 2 c) rfl (by kernel_rfl) (by kernel_rfl) (by kernel_rfl) (fun _ _ _ h => h) (Or.inl ⟨by kernel_rfl, fun w hSw => ?_⟩) V8S ?_
      · obtain ⟨e1, e2⟩ := hSw; go_simp
      simp only [Act.put, List.getElem_toArray, List.getElem_cons_succ, List.getElem_cons_zero, List.setIfInBounds_toArray, List.set_cons_zero, List.set_cons_succ]
      refine wpAnyH_done (by kernel_rfl) ?_ _
      obtain ⟨hL8, hB8⟩ := V8J.out
      have hm8 : V8.cell? ⟨0, 0, none⟩ = some (.int .i64 m) := by rw [hB8.cell (by simpa using h0)]; exact hm
      have hz8 : 0 < V8.heap.size := by have := hB8.size; omega
      have HSH := hid (show Calls Tryz.prog 18 #[.slice a 2 c] V8 (fun e V9 => e = .returned (.string ⟨#[45, 32, 10, 32, 32, 45, 32, 121, 10]⟩) ∧ Below V8.heap.size V8 V9) from by
        have := show_any a 2 c oaL m V8 hL8 (by intro x hx; simp [oaL] at hx; rcases hx with rfl | rfl <;> simp) (by omega) hm8 hz8
        rw [oa8] at this
        exact this)
      have HB8 := hid hB8
      have HL8 := hid hL8
      have HRD1 : Hid (∀ V, Below w.heap.size w V → Calls Tryz.prog 20 #[.string ⟨#[45, 32, 10, 32, 32, 45, 32, 121, 10]⟩] V fun e V' => ∃ a2 c2, e = .returned (.tuple #[.slice a2 2 c2, .int .i64 0]) ∧ Hid (LnS V' a2 2 c2 [⟨(0, 0), 0, []⟩, ⟨(0, 0), 1, [121]⟩] ∧ Below V.heap.size V V')) := hid (fun V hV => by
        have := read_any [45, 32, 10, 32, 32, 45, 32, 121, 10] m V (by decide) (by rw [hV.cell (by simpa using h0)]; exact hm) (by have := hV.size; omega)
        rw [oa11.1, oa11.2] at this
        refine this.mono ?_
        rintro e V' ⟨v, rfl, ho, hb⟩
        obtain ⟨a2, c2, rfl, hL⟩ := own_lns ho
        exact ⟨a2, c2, rfl, hid ⟨hL, hb⟩⟩)
      have HRD2 : Hid (∀ V, Below w.heap.size w V → Calls Tryz.prog 20 #[.string ⟨#[32, 32, 45, 32, 121, 10]⟩] V fun e V' => ∃ a3 c3, e = .returned (.tuple #[.slice a3 0 c3, .int .i64 11]) ∧ Hid (Below V.heap.size V V')) := hid (fun V hV => by
        have := read_any [32, 32, 45, 32, 121, 10] m V (by decide) (by rw [hV.cell (by simpa using h0)]; exact hm) (by have := hV.size; omega)
        rw [oa12.1, oa12.2] at this
        refine this.mono ?_
        rintro e V' ⟨v, rfl, ho, hb⟩
        obtain ⟨a2, c2, rfl, hL⟩ := own_lns ho
        exact ⟨a2, c2, rfl, hid hb⟩)
      clear hL8 hB8 hm8 hz8
      go_upto_region 10 with (go_at_call 18; refine HSH.out.mono ?_; rintro e V9 ⟨rfl, hb9⟩)
      have HB9 := hid (HB8.out.trans (hb9.mono HB8.out.size))
      have HL9 := hid (HL8.out.below hb9)
      clear hb9
      go_upto_region 11 with (go_at_call 20; refine (HRD1.out _ HB9.out).mono ?_; rintro e Va ⟨a2, c2, rfl, S10⟩)
      have HBa := hid (HB9.out.trans (S10.out.2.mono HB9.out.size))
      have HLa := hid (HL9.out.below S10.out.2)
      go_upto_region 12 with (go_at_call 20; refine (HRD2.out _ HBa.out).mono ?_; rintro e Vb ⟨a3, c3, rfl, S11⟩)
      have HBb := hid (HBa.out.trans (S11.out.mono HBa.out.size))
      obtain ⟨g1, o1, rfl, hg1, hc1⟩ := (HLa.out.below S11.out).at_ (by decide)
      have k1 := hc1 1 (by decide) 2 (.int .i64 1) rfl
      obtain ⟨g2, o2, rfl, hg2, hc2⟩ := (S10.out.1.below S11.out).at_ (by decide)
      have k2 := hc2 1 (by decide) 3 (.string ⟨#[121]⟩) rfl
      clear hc1 hc2
      go_wp2
      go_ret
      exact ⟨rfl, HBb.out⟩
    · go_simp
      refine (HRo1.out _ mb _ _ M1J.out).mono ?_
      rintro e N2V ⟨rfl, N2S, N2J⟩
      refine hK.out _ _ N2S (fun _ => ?_)
      clear hK K
      refine wpAnyH_ready (rs := [4]) (by kernel_rfl) (by simp) ?_
      refine AllReadyH.cons rfl (fun K hK => ?_) AllReadyH.nil
      obtain ⟨I3V, I3r, I3S, I3J⟩ := HIn.out _ mb N2J.out HMG.out
      go_simp
      refine hK.out _ _ I3S (fun _ => ?_)
      clear hK K
      refine wpAnyH_take (i := 5) (v := .map (some mb)) rfl (by kernel_rfl) (by kernel_rfl) (by kernel_rfl) (fun _ _ _ h => h) (Or.inl ⟨by kernel_rfl, fun w hSw => ?_⟩) I3S ?_
      · obtain ⟨e1, e2⟩ := hSw; go_simp
      simp only [Act.put, List.getElem_toArray, List.getElem_cons_succ, List.getElem_cons_zero, List.setIfInBounds_toArray, List.set_cons_zero, List.set_cons_succ]
      refine wpAnyH_ready (rs := [7]) (by kernel_rfl) (by simp) ?_
      refine AllReadyH.cons rfl (fun K hK => ?_) AllReadyH.nil
      go_simp
      refine (HUn.out _ mb I3J.out).mono ?_
      rintro e V8 ⟨a, c, rfl, V8S, V8J⟩
      refine hK.out _ _ V8S (fun _ => ?_)
      clear hK K
      refine wpAnyH_take (i := 8) (v := .slice a 2 c) rfl (by kernel_rfl) (by kernel_rfl) (by kernel_rfl) (fun _ _ _ h => h) (Or.inl ⟨by kernel_rfl, fun w hSw => ?_⟩) V8S ?_
      · obtain ⟨e1, e2⟩ := hSw; go_simp
      simp only [Act.put, List.getElem_toArray, List.getElem_cons_succ, List.getElem_cons_zero, List.setIfInBounds_toArray, List.set_cons_zero, List.set_cons_succ]
      refine wpAnyH_done (by kernel_rfl) ?_ _
      obtain ⟨hL8, hB8⟩ := V8J.out
      have hm8 : V8.cell? ⟨0, 0, none⟩ = some (.int .i64 m) := by rw [hB8.cell (by simpa using h0)]; exact hm
      have hz8 : 0 < V8.heap.size := by have := hB8.size; omega
      have HSH := hid (show Calls Tryz.prog 18 #[.slice a 2 c] V8 (fun e V9 => e = .returned (.string ⟨#[45, 32, 10, 32, 32, 45, 32, 121, 10]⟩) ∧ Below V8.heap.size V8 V9) from by
        have := show_any a 2 c oaL m V8 hL8 (by intro x hx; simp [oaL] at hx; rcases hx with rfl | rfl <;> simp) (by omega) hm8 hz8
        rw [oa8] at this
        exact this)
      have HB8 := hid hB8
      have HL8 := hid hL8
      have HRD1 : Hid (∀ V, Below w.heap.size w V → Calls Tryz.prog 20 #[.string ⟨#[45, 32, 10, 32, 32, 45, 32, 121, 10]⟩] V fun e V' => ∃ a2 c2, e = .returned (.tuple #[.slice a2 2 c2, .int .i64 0]) ∧ Hid (LnS V' a2 2 c2 [⟨(0, 0), 0, []⟩, ⟨(0, 0), 1, [121]⟩] ∧ Below V.heap.size V V')) := hid (fun V hV => by
        have := read_any [45, 32, 10, 32, 32, 45, 32, 121, 10] m V (by decide) (by rw [hV.cell (by simpa using h0)]; exact hm) (by have := hV.size; omega)
        rw [oa11.1, oa11.2] at this
        refine this.mono ?_
        rintro e V' ⟨v, rfl, ho, hb⟩
        obtain ⟨a2, c2, rfl, hL⟩ := own_lns ho
        exact ⟨a2, c2, rfl, hid ⟨hL, hb⟩⟩)
      have HRD2 : Hid (∀ V, Below w.heap.size w V → Calls Tryz.prog 20 #[.string ⟨#[32, 32, 45, 32, 121, 10]⟩] V fun e V' => ∃ a3 c3, e = .returned (.tuple #[.slice a3 0 c3, .int .i64 11]) ∧ Hid (Below V.heap.size V V')) := hid (fun V hV => by
        have := read_any [32, 32, 45, 32, 121, 10] m V (by decide) (by rw [hV.cell (by simpa using h0)]; exact hm) (by have := hV.size; omega)
        rw [oa12.1, oa12.2] at this
        refine this.mono ?_
        rintro e V' ⟨v, rfl, ho, hb⟩
        obtain ⟨a2, c2, rfl, hL⟩ := own_lns ho
        exact ⟨a2, c2, rfl, hid hb⟩)
      clear hL8 hB8 hm8 hz8
      go_upto_region 10 with (go_at_call 18; refine HSH.out.mono ?_; rintro e V9 ⟨rfl, hb9⟩)
      have HB9 := hid (HB8.out.trans (hb9.mono HB8.out.size))
      have HL9 := hid (HL8.out.below hb9)
      clear hb9
      go_upto_region 11 with (go_at_call 20; refine (HRD1.out _ HB9.out).mono ?_; rintro e Va ⟨a2, c2, rfl, S10⟩)
      have HBa := hid (HB9.out.trans (S10.out.2.mono HB9.out.size))
      have HLa := hid (HL9.out.below S10.out.2)
      go_upto_region 12 with (go_at_call 20; refine (HRD2.out _ HBa.out).mono ?_; rintro e Vb ⟨a3, c3, rfl, S11⟩)
      have HBb := hid (HBa.out.trans (S11.out.mono HBa.out.size))
      obtain ⟨g1, o1, rfl, hg1, hc1⟩ := (HLa.out.below S11.out).at_ (by decide)
      have k1 := hc1 1 (by decide) 2 (.int .i64 1) rfl
      obtain ⟨g2, o2, rfl, hg2, hc2⟩ := (S10.out.1.below S11.out).at_ (by decide)
      have k2 := hc2 1 (by decide) 3 (.string ⟨#[121]⟩) rfl
      clear hc1 hc2
      go_wp2
      go_ret
      exact ⟨rfl, HBb.out⟩
  · go_simp
    refine (HRo0.out _ J0.out).mono ?_
    rintro e N1V ⟨rfl, N1S, N1J⟩
    refine hK.out _ _ N1S (fun _ => ?_)
    clear hK K
    refine wpAnyH_ready (rs := [1]) (by kernel_rfl) (by simp) ?_
    refine AllReadyH.cons rfl (fun K hK => ?_) AllReadyH.nil
    go_simp
    obtain ⟨M2, M2S⟩ := HMk.out _ N1J.out
    have M2H := hid M2
    obtain ⟨mb, hmb⟩ : ∃ mb, mb = (N1V).heap.size := ⟨_, rfl⟩
    have HMB := hid hmb
    have HMG : Hid (Y5.heap.size ≤ mb) := hid (by rw [hmb]; exact HMB0.out _ N1J.out.2)
    refine hK.out _ _ M2S (fun _ => ?_)
    clear hK K
    rw [← hmb] at M2 ⊢
    clear hmb M2H
    have M2J := hid M2
    clear M2
    refine wpAnyH_ready (rs := [4]) (by kernel_rfl) (by simp) ?_
    refine AllReadyH.cons rfl (fun K hK => ?_) AllReadyH.nil
    obtain ⟨I3V, I3r, I3S, I3J⟩ := HIn.out _ mb M2J.out HMG.out
    go_simp
    refine hK.out _ _ I3S (fun _ => ?_)
    clear hK K
    refine wpAnyH_take (i := 5) (v := .map (some mb)) rfl (by kernel_rfl) (by kernel_rfl) (by kernel_rfl) (fun _ _ _ h => h) (Or.inl ⟨by kernel_rfl, fun w hSw => ?_⟩) I3S ?_
    · obtain ⟨e1, e2⟩ := hSw; go_simp
    simp only [Act.put, List.getElem_toArray, List.getElem_cons_succ, List.getElem_cons_zero, List.setIfInBounds_toArray, List.set_cons_zero, List.set_cons_succ]
    refine wpAnyH_ready (rs := [7]) (by kernel_rfl) (by simp) ?_
    refine AllReadyH.cons rfl (fun K hK => ?_) AllReadyH.nil
    go_simp
    refine (HUn.out _ mb I3J.out).mono ?_
    rintro e V8 ⟨a, c, rfl, V8S, V8J⟩
    refine hK.out _ _ V8S (fun _ => ?_)
    clear hK K
    refine wpAnyH_take (i := 8) (v := .slice a 2 c) rfl (by kernel_rfl) (by kernel_rfl) (by kernel_rfl) (fun _ _ _ h => h) (Or.inl ⟨by kernel_rfl, fun w hSw => ?_⟩) V8S ?_
    · obtain ⟨e1, e2⟩ := hSw; go_simp
    simp only [Act.put, List.getElem_toArray, List.getElem_cons_succ, List.getElem_cons_zero, List.setIfInBounds_toArray, List.set_cons_zero, List.set_cons_succ]
    refine wpAnyH_done (by kernel_rfl) ?_ _
    obtain ⟨hL8, hB8⟩ := V8J.out
    have hm8 : V8.cell? ⟨0, 0, none⟩ = some (.int .i64 m) := by rw [hB8.cell (by simpa using h0)]; exact hm
    have hz8 : 0 < V8.heap.size := by have := hB8.size; omega
    have HSH := hid (show Calls Tryz.prog 18 #[.slice a 2 c] V8 (fun e V9 => e = .returned (.string ⟨#[45, 32, 10, 32, 32, 45, 32, 121, 10]⟩) ∧ Below V8.heap.size V8 V9) from by
      have := show_any a 2 c oaL m V8 hL8 (by intro x hx; simp [oaL] at hx; rcases hx with rfl | rfl <;> simp) (by omega) hm8 hz8
      rw [oa8] at this
      exact this)
    have HB8 := hid hB8
    have HL8 := hid hL8
    have HRD1 : Hid (∀ V, Below w.heap.size w V → Calls Tryz.prog 20 #[.string ⟨#[45, 32, 10, 32, 32, 45, 32, 121, 10]⟩] V fun e V' => ∃ a2 c2, e = .returned (.tuple #[.slice a2 2 c2, .int .i64 0]) ∧ Hid (LnS V' a2 2 c2 [⟨(0, 0), 0, []⟩, ⟨(0, 0), 1, [121]⟩] ∧ Below V.heap.size V V')) := hid (fun V hV => by
      have := read_any [45, 32, 10, 32, 32, 45, 32, 121, 10] m V (by decide) (by rw [hV.cell (by simpa using h0)]; exact hm) (by have := hV.size; omega)
      rw [oa11.1, oa11.2] at this
      refine this.mono ?_
      rintro e V' ⟨v, rfl, ho, hb⟩
      obtain ⟨a2, c2, rfl, hL⟩ := own_lns ho
      exact ⟨a2, c2, rfl, hid ⟨hL, hb⟩⟩)
    have HRD2 : Hid (∀ V, Below w.heap.size w V → Calls Tryz.prog 20 #[.string ⟨#[32, 32, 45, 32, 121, 10]⟩] V fun e V' => ∃ a3 c3, e = .returned (.tuple #[.slice a3 0 c3, .int .i64 11]) ∧ Hid (Below V.heap.size V V')) := hid (fun V hV => by
      have := read_any [32, 32, 45, 32, 121, 10] m V (by decide) (by rw [hV.cell (by simpa using h0)]; exact hm) (by have := hV.size; omega)
      rw [oa12.1, oa12.2] at this
      refine this.mono ?_
      rintro e V' ⟨v, rfl, ho, hb⟩
      obtain ⟨a2, c2, rfl, hL⟩ := own_lns ho
      exact ⟨a2, c2, rfl, hid hb⟩)
    clear hL8 hB8 hm8 hz8
    go_upto_region 10 with (go_at_call 18; refine HSH.out.mono ?_; rintro e V9 ⟨rfl, hb9⟩)
    have HB9 := hid (HB8.out.trans (hb9.mono HB8.out.size))
    have HL9 := hid (HL8.out.below hb9)
    clear hb9
    go_upto_region 11 with (go_at_call 20; refine (HRD1.out _ HB9.out).mono ?_; rintro e Va ⟨a2, c2, rfl, S10⟩)
    have HBa := hid (HB9.out.trans (S10.out.2.mono HB9.out.size))
    have HLa := hid (HL9.out.below S10.out.2)
    go_upto_region 12 with (go_at_call 20; refine (HRD2.out _ HBa.out).mono ?_; rintro e Vb ⟨a3, c3, rfl, S11⟩)
    have HBb := hid (HBa.out.trans (S11.out.mono HBa.out.size))
    obtain ⟨g1, o1, rfl, hg1, hc1⟩ := (HLa.out.below S11.out).at_ (by decide)
    have k1 := hc1 1 (by decide) 2 (.int .i64 1) rfl
    obtain ⟨g2, o2, rfl, hg2, hc2⟩ := (S10.out.1.below S11.out).at_ (by decide)
    have k2 := hc2 1 (by decide) 3 (.string ⟨#[121]⟩) rfl
    clear hc1 hc2
    go_wp2
    go_ret
    exact ⟨rfl, HBb.out⟩
end
end Go.Proofs.YtnmdcdphpcpojaaGreatDoor
