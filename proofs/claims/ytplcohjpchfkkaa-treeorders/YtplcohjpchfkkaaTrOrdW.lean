/- TreeOrders: its walk. -/
import Derived.Test.YtplcohjpchfkkaaTrTwo
import Derived.Test.YtplcohjpchfkkaaTrMSwap
import Derived.Test.YtplcohjpchfkkaaTrNum
import Derived.Test.YtplcohjpchfkkaaTrSame
import Derived.Deep.CutRange
import Derived.Deep.CutBlock
import Derived.BigQuiet
set_option linter.unusedVariables false
set_option linter.unusedSimpArgs false
namespace Go.Proofs.Ytplcohjpchfkkaa
open Go.RowKit

theorem ids_apart2 {L : List Mv} (h : ∀ (i : Nat) x, L[i]? = some x → ∀ (j : Nat) y, j < i → L[j]? = some y → x.id ≠ y.id) : (L.map Mv.id).Nodup :=
  ids_apart (fun i hi k hk => h i _ (List.getElem?_eq_getElem hi) k _ hk (List.getElem?_eq_getElem (Nat.lt_trans hk hi)))

theorem ownM_at {w : World} {base g n c : Nat} {M : List Mv} (h : w.ownsRow base 33 8 (.slice (some ⟨g, 0, none⟩) n c) n (flM M)) {k : Nat} (hk : k < M.length) : w.cell? ⟨g, k * 8, none⟩ = some (.int .i64 M[k].id.1) ∧ w.cell? ⟨g, k * 8 + 1, none⟩ = some (.int .i64 M[k].id.2) ∧ w.cell? ⟨g, k * 8 + 2, none⟩ = some (.int .i64 M[k].time) ∧ w.cell? ⟨g, k * 8 + 3, none⟩ = some (.int .i64 M[k].block.1) ∧ w.cell? ⟨g, k * 8 + 4, none⟩ = some (.int .i64 M[k].block.2) ∧ w.cell? ⟨g, k * 8 + 5, none⟩ = some (.int .i64 M[k].parent.1) ∧ w.cell? ⟨g, k * 8 + 6, none⟩ = some (.int .i64 M[k].parent.2) ∧ w.cell? ⟨g, k * 8 + 7, none⟩ = some (.string M[k].key) := by
  have hc : ∀ j u, j < 8 → M[k].cells[j]? = some u → w.cell? ⟨g, k * 8 + j, none⟩ = some u := fun j u hj hu => by
    have := h.cells (g := g) rfl (k * 8 + j) u (by rw [flM_get M k hk j hj]; exact hu)
    rw [tadd_none, Nat.zero_add] at this
    exact this
  exact ⟨hc 0 _ (by decide) rfl, hc 1 _ (by decide) rfl, hc 2 _ (by decide) rfl, hc 3 _ (by decide) rfl, hc 4 _ (by decide) rfl, hc 5 _ (by decide) rfl, hc 6 _ (by decide) rfl, hc 7 _ (by decide) rfl⟩

theorem MvS.bel {w w' : World} {a : Option Addr} {n c : Nat} {L : List Mv} (h : MvS w a n c L) (hb : Below w.heap.size w w') : MvS w' a n c L :=
  ⟨h.len, h.cap, h.max, h.nil, fun hp => by
    obtain ⟨g, o, e, hg, hx⟩ := h.at_ hp
    exact ⟨g, o, e, Nat.lt_of_lt_of_le hg hb.size, fun i hi j u hj => by rw [hb.cell (p := ⟨g, o + i * 8 + j, none⟩) hg]; exact hx i hi j u hj⟩⟩

theorem owns_low {w w' : World} {b n size : Nat} {ty : TypeId} {v : Value} {xs : List Value} (h : w.ownsRow b ty size v n xs) (hb : Below w.heap.size w w') : w'.ownsRow b ty size v n xs := by
  refine ⟨h.1, ?_⟩
  rcases h.2 with h' | ⟨g, cap, cur, e, hB, hg, hn, hc, hs, ht⟩
  · exact Or.inl h'
  · exact Or.inr ⟨g, cap, cur, e, hB, (hb.block g (Array.getElem?_eq_some_iff.1 hg).1).trans hg, hn, hc, hs, ht⟩

theorem ps_small {w : World} {a : Option Addr} {n c : Nat} {L : List Dt} (h : PS w a n c L) : n ≤ 9223372036854775807 := by
  have h1 := h.cap
  have h2 := h.max
  unfold maxLen at h2
  omega

theorem take_next {L : List Mv} {k : Nat} {m : Mv} (hm : L[k]? = some m) : tr (L.take (k + 1)) = mvL (tr (L.take k)) m := by
  have hk := (List.getElem?_eq_some_iff.1 hm).1
  rw [← tr_snoc, List.take_succ_eq_append_getElem hk, (List.getElem?_eq_some_iff.1 hm).2]

set_option maxRecDepth 100000 in
set_option maxHeartbeats 8000000 in
theorem torders_walk (a : Option Addr) (n c : Nat) (L : List Mv) (ta : Option Addr) (tn tc : Nat) (tl : List Int) (w : World) (hL : MvS w a n c L) (hf : ∀ m ∈ L, m.Fits) (ht : NuS w ta tn tc tl) :
    Calls Try.prog 4 #[.slice a n c, .slice ta tn tc] w fun e w' => e = .returned (.bool true) ∧ Below w.heap.size w w' := by
  have hmxo : Try.prog.follows .mixedOrders = true := by kernel_rfl
  have mixed := mixed
  have haw := tawake_any w
  have hnc := hL.cap
  have hcx := hL.max
  have htm := ht.max
  have htc := ht.cap
  unfold maxLen at hcx htm
  have HLlen := hid hL.len
  have HL := hid hL
  have HFi := hid hf
  have HT := hid ht
  clear hL hf ht
  go_enter Try.func4, Try.ntmps4
  by_cases hn40 : 40 < n
  · have hb0 : decide ((40 : Int) < (n : Int)) = true := by simp; omega
    go_wp2_with (go_at_call 9; refine haw.mono ?_; rintro e w1 ⟨rfl, h1⟩)
    go_ret
    exact ⟨rfl, h1⟩
  · have hb0 : decide ((40 : Int) < (n : Int)) = false := by simp; omega
    go_wp2_with (go_at_call 9; refine haw.mono ?_; rintro e w1 ⟨rfl, h1⟩)
    have HB1 := hid h1
    clear haw h1
    go_loopw [6] (fun i wr => ∃ k : Nat, k ≤ n ∧ i = .int .i64 k ∧ Hid (Below w.heap.size w wr) ∧ Hid (∀ (i : Nat) x, i < k → L[i]? = some x → ∀ (j : Nat) y, j < i → L[j]? = some y → x.id ≠ y.id)) (fun i _ => n - (intOf i).toNat)
    case atStart => exact ⟨0, by omega, rfl, HB1, hid (fun i x hi => absurd hi (by omega))⟩
    case round =>
      obtain ⟨k, hk, rfl, HB, HA⟩ := hrel
      by_cases hkn : k < n
      · have hb1 : decide ((k : Int) < (n : Int)) = true := by simp [hkn]
        obtain ⟨⟨⟨i1, i2⟩, tm, ⟨b1, b2⟩, ⟨p1, p2⟩, ky⟩, hm⟩ : ∃ m, L[k]? = some m := ⟨_, List.getElem?_eq_getElem (by rw [HLlen.out]; exact hkn)⟩
        obtain ⟨g, o, rfl, hg, hcl⟩ := HL.out.look hm
        have HG := hid hg
        have HCL := hid hcl
        have HM := hid hm
        clear hg hcl hm
        go_wp2_with fail
        go_loopw [7] (fun j wr2 => ∃ kk : Nat, kk ≤ k ∧ j = .int .i64 kk ∧ Hid (Below w.heap.size w wr2) ∧ Hid (∀ (j : Nat) y, j < kk → L[j]? = some y → ((i1, i2) : Dt) ≠ y.id)) (fun j _ => k - (intOf j).toNat)
        case atStart => exact ⟨0, by omega, rfl, HB, hid (fun j y hj => absurd hj (by omega))⟩
        case round =>
          obtain ⟨kk, hkk, rfl, HB2, HN⟩ := hrel
          by_cases hlt : kk < k
          · have hb2 : decide ((kk : Int) < (k : Int)) = true := by simp [hlt]
            obtain ⟨⟨⟨j1, j2⟩, tm', ⟨c1, c2⟩, ⟨q1, q2⟩, kz⟩, hy⟩ : ∃ m, L[kk]? = some m := ⟨_, List.getElem?_eq_getElem (by rw [HLlen.out]; omega)⟩
            obtain ⟨g', o', e', _, hcl'⟩ := HL.out.look hy
            cases e'
            have C0 : ∀ m, (wr.drewN m).cell? ⟨g, o + k * 8, none⟩ = some (.int .i64 i1) := fun m => (HCL.out _ (HB2.out.block g HG.out)).1
            have C1 : ∀ m, (wr.drewN m).cell? ⟨g, o + k * 8 + 1, none⟩ = some (.int .i64 i2) := fun m => (HCL.out _ (HB2.out.block g HG.out)).2.1
            have E0 : ∀ m, (wr.drewN m).cell? ⟨g, o + kk * 8, none⟩ = some (.int .i64 j1) := fun m => (hcl' _ (HB2.out.block g HG.out)).1
            have E1 : ∀ m, (wr.drewN m).cell? ⟨g, o + kk * 8 + 1, none⟩ = some (.int .i64 j2) := fun m => (hcl' _ (HB2.out.block g HG.out)).2.1
            have HY := hid hy
            clear hcl' hy
            have hk1 : (kk : Int) < (n : Int) := by omega
            have hk2 : (k : Int) < (n : Int) := by omega
            have hk0 : (0 : Int) ≤ (kk : Int) := by omega
            by_cases e1 : i1 = j1
            · subst e1
              by_cases e2 : i2 = j2
              · subst e2
                go_wp2_with fail
                go_quiet (fail)
                go_wp2
                go_ret
                exact ⟨rfl, HB2.out.trans (((Far.refl wr).drewN _).below.mono HB2.out.size)⟩
              · have HNx : Hid (∀ (j : Nat) y, j < kk + 1 → L[j]? = some y → ((i1, i2) : Dt) ≠ y.id) := hid (fun j y hj hjy => by
                  rcases Nat.lt_or_ge j kk with h | h
                  · exact HN.out j y h hjy
                  · obtain rfl : j = kk := by omega
                    rw [HY.out] at hjy
                    cases hjy
                    exact fun e => e2 (Prod.mk.inj e).2)
                go_wp2_with fail
                go_quiet (fail)
                go_wp2
                go_roundw
                case rel => exact ⟨kk + 1, by omega, by go_num, hid (HB2.out.trans (((Far.refl wr).drewN _).below.mono HB2.out.size)), HNx⟩
                case measure => simp [intOf]; omega
            · have HNx : Hid (∀ (j : Nat) y, j < kk + 1 → L[j]? = some y → ((i1, i2) : Dt) ≠ y.id) := hid (fun j y hj hjy => by
                rcases Nat.lt_or_ge j kk with h | h
                · exact HN.out j y h hjy
                · obtain rfl : j = kk := by omega
                  rw [HY.out] at hjy
                  cases hjy
                  exact fun e => e1 (Prod.mk.inj e).1)
              go_wp2_with fail
              go_quiet (fail)
              go_wp2
              go_roundw
              case rel => exact ⟨kk + 1, by omega, by go_num, hid (HB2.out.trans (((Far.refl wr).drewN _).below.mono HB2.out.size)), HNx⟩
              case measure => simp [intOf]; omega
          · have hb2 : decide ((kk : Int) < (k : Int)) = false := by simp; omega
            have HAx : Hid (∀ (i : Nat) x, i < k + 1 → L[i]? = some x → ∀ (j : Nat) y, j < i → L[j]? = some y → x.id ≠ y.id) := hid (fun i x hi hx j y hj hy => by
              rcases Nat.lt_or_ge i k with h | h
              · exact HA.out i x h hx j y hj hy
              · obtain rfl : i = k := by omega
                rw [HM.out] at hx
                cases hx
                exact HN.out j y (by omega) hy)
            go_wp2
            go_roundw
            case rel => exact ⟨k + 1, by omega, by go_num, HB2, HAx⟩
            case measure => simp [intOf]; omega
      · obtain rfl : n = k := by omega
        have hb1 : decide ((n : Int) < (n : Int)) = false := by simp
        obtain ⟨W3, hW3⟩ : ∃ W3, W3 = wr := ⟨_, rfl⟩
        rw [← hW3] at HB ⊢
        clear hW3
        have HND : Hid ((L.map Mv.id).Nodup) := hid (ids_apart2 (fun i x hx j y hj hy => HA.out i x (by have := (List.getElem?_eq_some_iff.1 hx).1; rw [HLlen.out] at this; exact this) hx j y hj hy))
        have hLw : MvS W3 a n c L := HL.out.bel HB.out
        have HB3 := hid HB.out
        clear HB HA
        go_upto_region 16 with (first
          | (at_builtin; refine wpList_append_mvs rfl _ _ 22 Try.underlying22 rfl W3.heap.size (.slice none 0 0) 0 [] rfl (World.ownsRow_nil _ _ _ _) a n c L rfl hLw (by omega) (Nat.le_refl _) ?_; intro v3 w3 ho3 hg3))
        have hT0 : TWM W3 w3 v3 n L L := ⟨by simpa using ho3, List.Perm.refl _, (Below.refl _ W3).grown hg3 (Nat.le_refl _) (fun k hk => by cases hk)⟩
        obtain ⟨ma, mc, rfl, hmm⟩ := own_mvs hT0.own
        have hmc := hmm.cap
        have hmx := hmm.max
        unfold maxLen at hmx
        have HT0 := hid hT0
        clear hT0 ho3 hg3 hLw hmm
        go_wp2_with fail
        go_loopw [9] (fun i wr2 => ∃ (k : Nat) (M : List Mv), k ≤ n ∧ i = .int .i64 k ∧ Hid (TWM W3 wr2 (.slice ma n mc) n L M)) (fun i _ => n - (intOf i).toNat)
        case atStart => exact ⟨0, L, by omega, rfl, HT0⟩
        case round =>
          clear HT0
          obtain ⟨k, M, hk, rfl, hT⟩ := hrel
          by_cases hlt : k < n ∧ k < tn
          · obtain ⟨hk1, hk2⟩ := hlt
            have hb1 : decide ((k : Int) < (n : Int)) = true := by simp [hk1]
            have hb2 : decide ((k : Int) < (tn : Int)) = true := by simp [hk2]
            have hML := ownM_len hT.out.own
            have HML := hid hML
            obtain ⟨tg, tf, rfl, hct⟩ := (HT.out.below (HB3.out.trans (hT.out.bel.mono HB3.out.size))).at hk2
            generalize (tl[k]'(by rw [HT.out.len]; exact hk2)) = tv at hct
            have hkM : k < M.length := by omega
            obtain ⟨g, mc', e, hgb, hgl⟩ := ownM_form hT.out.own (by omega)
            simp only [Value.slice.injEq] at e
            obtain ⟨rfl, hz, rfl⟩ := e
            clear hz hML
            obtain ⟨q, hq, hqn⟩ : ∃ q : Nat, q < n ∧ (tv.tmod (n : Int) = (q : Int) ∨ (tv.tmod (n : Int) = -(q : Int) ∧ 0 < q)) := by
              rcases turn_rangeM tv (show 0 < n by omega) with ⟨q, h1, h2⟩ | ⟨q, h1, h2, h3⟩
              · exact ⟨q, h2, Or.inl h1⟩
              · exact ⟨q, h3, Or.inr ⟨h1, h2⟩⟩
            have hnz : ¬ ((n : Int) = 0) := by omega
            go_upto_if 75 with fail
            go_cut [10] from 55 to 77 (fun s wc => s = .int .i64 (q : Int) ∧ wr = wc)
            case first =>
              rcases hqn with h | ⟨h, hq0⟩
              · have hb3 : decide ((q : Int) < 0) = false := by simp
                go_wp2_with fail
                go_meet
                case rel => exact ⟨by rw [h], rfl⟩
              · have hb3 : decide (-(q : Int) < 0) = true := by simp; omega
                go_wp2_with fail
                go_meet
                case rel => exact ⟨by first | rfl | (rw [h]; simp) | simp, rfl⟩
            case rest =>
              obtain ⟨rfl, rfl⟩ := hcut
              clear hqn hct
              obtain ⟨x, hx⟩ : ∃ x, M[k] = x := ⟨_, rfl⟩
              have hXk := ownM_at hT.out.own hkM
              rw [hx] at hXk
              obtain ⟨x0, x1, x2, x3, x4, x5, x6, x7⟩ := hXk
              obtain ⟨W1, hW1⟩ : ∃ W1, W1 = wr.alloc (.cells #[.int .i64 x.id.1, .int .i64 x.id.2, .int .i64 x.time, .int .i64 x.block.1, .int .i64 x.block.2, .int .i64 x.parent.1, .int .i64 x.parent.2, .string x.key] 33) := ⟨_, rfl⟩
              have hF1 : Below wr.heap.size wr W1 := by rw [hW1]; exact (Below.refl _ wr).alloc (Nat.le_refl _) _
              have hbx : W1.heap[wr.heap.size]? = some (.cells #[.int .i64 x.id.1, .int .i64 x.id.2, .int .i64 x.time, .int .i64 x.block.1, .int .i64 x.block.2, .int .i64 x.parent.1, .int .i64 x.parent.2, .string x.key] 33 (0, 0)) := by rw [hW1]; exact World.alloc_heap_new wr _
              have hT1 : TWM W3 W1 (.slice (some ⟨g, 0, none⟩) n mc) n L M := ⟨owns_low hT.out.own hF1, hT.out.perm, hT.out.bel.trans (hF1.mono hT.out.bel.size)⟩
              have hkq : (k : Int) < (n : Int) := by omega
              have hqq : (q : Int) < (n : Int) := by omega
              go_upto_region 23 with fail
              rw [← hW1]
              clear x0 x1 x2 x3 x4 x5 x6 x7 hW1
              obtain ⟨bx, hbxe⟩ : ∃ bx, wr.heap.size = bx := ⟨_, rfl⟩
              have hgx : g < bx := by omega
              have hbl := (Array.getElem?_eq_some_iff.1 hbx).1
              rw [hbxe] at hbx hbl ⊢
              clear hbxe hF1
              have hqM : q < M.length := by have := HML.out; omega
              obtain ⟨y, hy⟩ : ∃ y, M[q] = y := ⟨_, rfl⟩
              have hY := ownM_at hT1.own hqM
              have hXX := ownM_at hT1.own hkM
              rw [hy] at hY
              rw [hx] at hXX
              obtain ⟨y0, y1, y2, y3, y4, y5, y6, y7⟩ := hY
              obtain ⟨x0, x1, x2, x3, x4, x5, x6, x7⟩ := hXX
              have hfz : ∀ j, W1.frozen? ⟨g, j, none⟩ = false := fun j => World.ownsRow.frozenAt hT1.own j
              have hput := putM8_own (k := k) hT1.own hkM y
              have HT1 := hid hT1
              have HX := hid hx
              have HY := hid hy
              have HBX := hid hbx
              clear hy hx hT1 hbx
              have hMs : (M.set k y).length = M.length := List.length_set
              go_upto_region 24 with fail
              change Code.wp _ _ _ _ (putM8 W1 g (k * 8) y)
              clear x0 x1 x2 x3 x4 x5 x6 x7 y0 y1 y2 y3 y4 y5 y6 y7 hfz
              obtain ⟨P1, hP1⟩ : ∃ P1, P1 = putM8 W1 g (k * 8) y := ⟨_, rfl⟩
              rw [← hP1] at hput ⊢
              clear hP1
              obtain ⟨hO1, hg1⟩ := hput
              have hB1 : Below W3.heap.size W3 P1 := HT1.out.bel.grown hg1 HT1.out.bel.size (fun j hj => by cases hj; exact hgb)
              have hbP := (hg1.block bx hbl (fun e => by cases e; omega)).trans HBX.out
              have hZ := ownM_at hO1 (k := q) (by omega)
              obtain ⟨y0, y1, y2, y3, y4, y5, y6, y7⟩ := hZ
              generalize ((M.set k y)[q]'(by omega)) = z at *
              have x0 : P1.cell? ⟨bx, 0, none⟩ = some (.int .i64 x.id.1) := by simp [World.cell?, hbP]
              have x1 : P1.cell? ⟨bx, 1, none⟩ = some (.int .i64 x.id.2) := by simp [World.cell?, hbP]
              have x2 : P1.cell? ⟨bx, 2, none⟩ = some (.int .i64 x.time) := by simp [World.cell?, hbP]
              have x3 : P1.cell? ⟨bx, 3, none⟩ = some (.int .i64 x.block.1) := by simp [World.cell?, hbP]
              have x4 : P1.cell? ⟨bx, 4, none⟩ = some (.int .i64 x.block.2) := by simp [World.cell?, hbP]
              have x5 : P1.cell? ⟨bx, 5, none⟩ = some (.int .i64 x.parent.1) := by simp [World.cell?, hbP]
              have x6 : P1.cell? ⟨bx, 6, none⟩ = some (.int .i64 x.parent.2) := by simp [World.cell?, hbP]
              have x7 : P1.cell? ⟨bx, 7, none⟩ = some (.string x.key) := by simp [World.cell?, hbP]
              have hfz : ∀ j, P1.frozen? ⟨g, j, none⟩ = false := fun j => World.ownsRow.frozenAt hO1 j
              have hput2 := putM8_own (k := q) hO1 (by omega) x
              have hperm : ((M.set k y).set q x).Perm L := by
                have := swap_permM hkM hqM
                rw [HX.out, HY.out] at this
                exact this.trans HT1.out.perm
              have hnext : Hid (TWM W3 (putM8 P1 g (q * 8) x) (.slice (some ⟨g, 0, none⟩) n mc) n L ((M.set k y).set q x)) := hid ⟨hput2.1, hperm, hB1.grown hput2.2 hB1.size (fun j hj => by cases hj; exact hgb)⟩
              clear hput2 hperm hMs hO1 hg1 hbP hB1
              go_wp2
              go_roundw
              case rel => exact ⟨k + 1, _, by omega, by go_num, hnext⟩
              case measure => simp [intOf]; omega
          · go_upto_region 17 with fail
            go_cut [64] from 55 to 64 (fun s wc => s = .bool false ∧ wr = wc)
            case first =>
              by_cases hk1 : k < n
              · have hb1 : decide ((k : Int) < (n : Int)) = true := by simp [hk1]
                have h60 : tn ≤ k := by omega
                have hb2 : decide ((k : Int) < (tn : Int)) = false := by simp; omega
                go_wp2_with fail
                go_meet
                case rel => exact ⟨by first | rfl | (simp; omega), rfl⟩
              · have hkn : n ≤ k := by omega
                have hb1 : decide ((k : Int) < (n : Int)) = false := by simp; omega
                go_wp2_with fail
                go_meet
                case rel => exact ⟨rfl, rfl⟩
            case rest =>
              obtain ⟨rfl, rfl⟩ := hcut
              clear hlt hk
              obtain ⟨W5, hW5⟩ : ∃ W5, W5 = wr := ⟨_, rfl⟩
              rw [← hW5] at hT ⊢
              clear hW5
              obtain ⟨a5, c5, hv5, hM5⟩ := own_mvs hT.out.own
              simp only [Value.slice.injEq] at hv5
              obtain ⟨rfl, _, rfl⟩ := hv5
              have HB5 : Hid (Below w.heap.size w W5) := hid (HB3.out.trans (hT.out.bel.mono HB3.out.size))
              have HPe := hid hT.out.perm
              have HM5 := hid hM5
              have HL5 := hid (HL.out.bel HB5.out)
              obtain ⟨P, hP⟩ : ∃ P : Nat → Prop, P = (fun j => j < W5.heap.size) := ⟨_, rfl⟩
              have HP := hid hP
              have HN1 := (new_tp W5).mono (R' := fun e V => ∃ s, e = .returned (.pointer (some ⟨s, 0, none⟩)) ∧ Hid (TP V s [] P ∧ Below W5.heap.size W5 V)) (fun e V h => ⟨_, h.1, hid ⟨by rw [hP]; exact h.2.1, h.2.2⟩⟩)
              have HN2 : Hid (∀ V s, (TP V s [] P ∧ Below W5.heap.size W5 V) → Calls Try.prog 10 #[] V fun e V' => ∃ t, e = .returned (.pointer (some ⟨t, 0, none⟩)) ∧ Hid (D2 V' s t [] [] P ∧ Below W5.heap.size W5 V')) := hid (fun V s h => (new_d2 h.1).mono (fun e V' g => ⟨_, g.1, hid ⟨g.2.1, h.2.trans (g.2.2.mono h.2.size)⟩⟩))
              clear hT hM5 hP
              go_wp2_with (first
                | (go_at_call 10; have hq := H6; refine (HN2.out _ _ H6.out).mono ?_; rintro e W7 ⟨t, rfl, H7⟩)
                | (go_at_call 10; refine HN1.mono ?_; rintro e W6 ⟨s, rfl, H6⟩))
              clear HN1 HN2 H6
              go_loopw [14] (fun i wr4 => ∃ k : Nat, k ≤ n ∧ i = .int .i64 k ∧ Hid (D2 wr4 s t (tr (L.take k)) (tr (M.take k)) P ∧ Below W5.heap.size W5 wr4)) (fun i _ => n - (intOf i).toNat)
              case atStart => exact ⟨0, by omega, rfl, hid (by simpa [tr] using H7.out)⟩
              case round =>
                clear H7
                obtain ⟨k, hk, rfl, S4⟩ := hrel
                by_cases hkn : k < n
                · have hb1 : decide ((k : Int) < (n : Int)) = true := by simp [hkn]
                  obtain ⟨⟨⟨i1, i2⟩, tm, ⟨b1, b2⟩, ⟨p1, p2⟩, ky⟩, hm⟩ : ∃ m, L[k]? = some m := ⟨_, List.getElem?_eq_getElem (by rw [HLlen.out]; exact hkn)⟩
                  obtain ⟨⟨⟨zi1, zi2⟩, ztm, ⟨zb1, zb2⟩, ⟨zp1, zp2⟩, zky⟩, hz⟩ : ∃ m, M[k]? = some m := ⟨_, List.getElem?_eq_getElem (by rw [HM5.out.len]; exact hkn)⟩
                  have hmf := HFi.out _ (List.mem_of_getElem? hm)
                  have hzf := HFi.out _ (HPe.out.mem_iff.1 (List.mem_of_getElem? hz))
                  obtain ⟨g, o, rfl, hg, hcl⟩ := HL5.out.look hm
                  obtain ⟨zg, zo, rfl, hzg, hzl⟩ := HM5.out.look hz
                  have hlen1 : (tr (L.take k)).length + 1 ≤ 1000 := by have := tr_len (L.take k); rw [List.length_take] at this; omega
                  have hlen2 : (tr (M.take k)).length + 1 ≤ 1000 := by have := tr_len (M.take k); rw [List.length_take] at this; omega
                  have hS1 : wr.drew.cell? ⟨g, o + k * 8, none⟩ = some (.int .i64 i1) ∧ wr.drew.cell? ⟨g, o + k * 8 + 1, none⟩ = some (.int .i64 i2) ∧ wr.drew.cell? ⟨g, o + k * 8 + 2, none⟩ = some (.int .i64 tm) ∧ wr.drew.cell? ⟨g, o + k * 8 + 3, none⟩ = some (.int .i64 b1) ∧ wr.drew.cell? ⟨g, o + k * 8 + 4, none⟩ = some (.int .i64 b2) ∧ wr.drew.cell? ⟨g, o + k * 8 + 5, none⟩ = some (.int .i64 p1) ∧ wr.drew.cell? ⟨g, o + k * 8 + 6, none⟩ = some (.int .i64 p2) ∧ wr.drew.cell? ⟨g, o + k * 8 + 7, none⟩ = some (.string ky) := hcl wr.drew (S4.out.2.block g hg)
                  obtain ⟨E1, hE1⟩ : ∃ E, E = mvE (tr (L.take k)) (⟨(i1, i2), tm, (b1, b2), (p1, p2), ky⟩ : Mv) := ⟨_, rfl⟩
                  obtain ⟨E2, hE2⟩ : ∃ E, E = mvE (tr (M.take k)) (⟨(zi1, zi2), ztm, (zb1, zb2), (zp1, zp2), zky⟩ : Mv) := ⟨_, rfl⟩
                  have HM1 := (move_d2 (⟨(i1, i2), tm, (b1, b2), (p1, p2), ky⟩ : Mv) S4.out.1.drew ⟨hmf.id, hmf.block, hmf.parent⟩ hlen1).mono (R' := fun e V => e = .returned (.int .i64 E1) ∧ (V.cell? ⟨g, o + k * 8, none⟩ = some (.int .i64 i1) ∧ V.cell? ⟨g, o + k * 8 + 1, none⟩ = some (.int .i64 i2) ∧ V.cell? ⟨g, o + k * 8 + 2, none⟩ = some (.int .i64 tm) ∧ V.cell? ⟨g, o + k * 8 + 3, none⟩ = some (.int .i64 b1) ∧ V.cell? ⟨g, o + k * 8 + 4, none⟩ = some (.int .i64 b2) ∧ V.cell? ⟨g, o + k * 8 + 5, none⟩ = some (.int .i64 p1) ∧ V.cell? ⟨g, o + k * 8 + 6, none⟩ = some (.int .i64 p2) ∧ V.cell? ⟨g, o + k * 8 + 7, none⟩ = some (.string ky)) ∧ Hid (D2 V s t (tr (L.take (k + 1))) (tr (M.take k)) P ∧ Below W5.heap.size W5 V)) (fun e V h => by
                    have hb : Below W5.heap.size W5 V := S4.out.2.drew.trans (KP.bel (by rw [HP.out] at h; exact h.2.2))
                    refine ⟨by rw [h.1, hE1], hcl V (hb.block g hg), hid ⟨?_, hb⟩⟩
                    rw [take_next hm]
                    exact h.2.1)
                  have HM2 : Hid (∀ V, (D2 V s t (tr (L.take (k + 1))) (tr (M.take k)) P ∧ Below W5.heap.size W5 V) → Calls Try.prog 12 #[.pointer (some ⟨t, 0, none⟩), .agg #[.int .i64 zi1, .int .i64 zi2], .int .i64 ztm, .agg #[.int .i64 zb1, .int .i64 zb2], .agg #[.int .i64 zp1, .int .i64 zp2], .string zky] V.drew fun e V' => e = .returned (.int .i64 E2) ∧ (V'.cell? ⟨zg, zo + k * 8, none⟩ = some (.int .i64 zi1) ∧ V'.cell? ⟨zg, zo + k * 8 + 1, none⟩ = some (.int .i64 zi2) ∧ V'.cell? ⟨zg, zo + k * 8 + 2, none⟩ = some (.int .i64 ztm) ∧ V'.cell? ⟨zg, zo + k * 8 + 3, none⟩ = some (.int .i64 zb1) ∧ V'.cell? ⟨zg, zo + k * 8 + 4, none⟩ = some (.int .i64 zb2) ∧ V'.cell? ⟨zg, zo + k * 8 + 5, none⟩ = some (.int .i64 zp1) ∧ V'.cell? ⟨zg, zo + k * 8 + 6, none⟩ = some (.int .i64 zp2) ∧ V'.cell? ⟨zg, zo + k * 8 + 7, none⟩ = some (.string zky)) ∧ Hid (D2 V' s t (tr (L.take (k + 1))) (tr (M.take (k + 1))) P ∧ Below W5.heap.size W5 V')) := hid (fun V hV => (move_d2 (⟨(zi1, zi2), ztm, (zb1, zb2), (zp1, zp2), zky⟩ : Mv) hV.1.symm.drew ⟨hzf.id, hzf.block, hzf.parent⟩ hlen2).mono (fun e V' h => by
                    have hb : Below W5.heap.size W5 V' := hV.2.drew.trans (KP.bel (by rw [HP.out] at h; exact h.2.2))
                    refine ⟨by rw [h.1, hE2], hzl V' (hb.block zg hzg), hid ⟨?_, hb⟩⟩
                    rw [take_next hz]
                    exact h.2.1.symm))
                  have HZL : Hid (∀ V, Below W5.heap.size W5 V → V.drew.cell? ⟨zg, zo + k * 8, none⟩ = some (.int .i64 zi1) ∧ V.drew.cell? ⟨zg, zo + k * 8 + 1, none⟩ = some (.int .i64 zi2) ∧ V.drew.cell? ⟨zg, zo + k * 8 + 2, none⟩ = some (.int .i64 ztm) ∧ V.drew.cell? ⟨zg, zo + k * 8 + 3, none⟩ = some (.int .i64 zb1) ∧ V.drew.cell? ⟨zg, zo + k * 8 + 4, none⟩ = some (.int .i64 zb2) ∧ V.drew.cell? ⟨zg, zo + k * 8 + 5, none⟩ = some (.int .i64 zp1) ∧ V.drew.cell? ⟨zg, zo + k * 8 + 6, none⟩ = some (.int .i64 zp2) ∧ V.drew.cell? ⟨zg, zo + k * 8 + 7, none⟩ = some (.string zky)) := hid (fun V hV => hzl V.drew (hV.block zg hzg))
                  clear hcl hzl hE1 hE2 hm hz hmf hzf hlen1 hlen2
                  go_wp2_with fail
                  refine wp_region_held_drew (S := fun w' => w'.cell? ⟨g, o + k * 8, none⟩ = some (.int .i64 i1) ∧ w'.cell? ⟨g, o + k * 8 + 1, none⟩ = some (.int .i64 i2) ∧ w'.cell? ⟨g, o + k * 8 + 2, none⟩ = some (.int .i64 tm) ∧ w'.cell? ⟨g, o + k * 8 + 3, none⟩ = some (.int .i64 b1) ∧ w'.cell? ⟨g, o + k * 8 + 4, none⟩ = some (.int .i64 b2) ∧ w'.cell? ⟨g, o + k * 8 + 5, none⟩ = some (.int .i64 p1) ∧ w'.cell? ⟨g, o + k * 8 + 6, none⟩ = some (.int .i64 p2) ∧ w'.cell? ⟨g, o + k * 8 + 7, none⟩ = some (.string ky)) hmxo hS1 ?_
                  intro _
                  refine wpAnyH_take (i := 0) (v := .pointer (some ⟨s, 0, none⟩)) rfl (by kernel_rfl) (by kernel_rfl) (by kernel_rfl) (fun _ _ _ h => h) (Or.inl ⟨by kernel_rfl, fun w hSw => ?_⟩) hS1 ?_
                  · obtain ⟨e1, e2, e3, e4, e5, e6, e7, e8⟩ := hSw; go_simp
                  simp only [Act.put, List.getElem_toArray, List.getElem_cons_succ, List.getElem_cons_zero, List.setIfInBounds_toArray, List.set_cons_zero, List.set_cons_succ]
                  refine wpAnyH_take (i := 1) (v := .slice (some ⟨g, o, none⟩) n c) rfl (by kernel_rfl) (by kernel_rfl) (by kernel_rfl) (fun _ _ _ h => h) (Or.inl ⟨by kernel_rfl, fun w hSw => ?_⟩) hS1 ?_
                  · obtain ⟨e1, e2, e3, e4, e5, e6, e7, e8⟩ := hSw; go_simp
                  simp only [Act.put, List.getElem_toArray, List.getElem_cons_succ, List.getElem_cons_zero, List.setIfInBounds_toArray, List.set_cons_zero, List.set_cons_succ]
                  refine wpAnyH_take (i := 2) (v := .int .i64 (k : Int)) rfl (by kernel_rfl) (by kernel_rfl) (by kernel_rfl) (fun _ _ _ h => h) (Or.inl ⟨by kernel_rfl, fun w hSw => ?_⟩) hS1 ?_
                  · obtain ⟨e1, e2, e3, e4, e5, e6, e7, e8⟩ := hSw; go_simp
                  simp only [Act.put, List.getElem_toArray, List.getElem_cons_succ, List.getElem_cons_zero, List.setIfInBounds_toArray, List.set_cons_zero, List.set_cons_succ]
                  refine wpAnyH_take (i := 3) (v := .pointer (some ⟨g, o + k * 8, none⟩)) rfl (by kernel_rfl) (by kernel_rfl) (by kernel_rfl) (fun _ _ _ h => h) (Or.inl ⟨by kernel_rfl, fun w hSw => ?_⟩) hS1 ?_
                  · obtain ⟨e1, e2, e3, e4, e5, e6, e7, e8⟩ := hSw; go_simp
                  simp only [Act.put, List.getElem_toArray, List.getElem_cons_succ, List.getElem_cons_zero, List.setIfInBounds_toArray, List.set_cons_zero, List.set_cons_succ]
                  refine wpAnyH_take (i := 4) (v := .pointer (some ⟨g, o + k * 8, none⟩)) rfl (by kernel_rfl) (by kernel_rfl) (by kernel_rfl) (fun _ _ _ h => h) (Or.inl ⟨by kernel_rfl, fun w hSw => ?_⟩) hS1 ?_
                  · obtain ⟨e1, e2, e3, e4, e5, e6, e7, e8⟩ := hSw; go_simp
                  simp only [Act.put, List.getElem_toArray, List.getElem_cons_succ, List.getElem_cons_zero, List.setIfInBounds_toArray, List.set_cons_zero, List.set_cons_succ]
                  refine wpAnyH_take (i := 5) (v := .agg #[.int .i64 i1, .int .i64 i2]) rfl (by kernel_rfl) (by kernel_rfl) (by kernel_rfl) (fun _ _ _ h => h) (Or.inl ⟨by kernel_rfl, fun w hSw => ?_⟩) hS1 ?_
                  · obtain ⟨e1, e2, e3, e4, e5, e6, e7, e8⟩ := hSw; go_simp
                  simp only [Act.put, List.getElem_toArray, List.getElem_cons_succ, List.getElem_cons_zero, List.setIfInBounds_toArray, List.set_cons_zero, List.set_cons_succ]
                  refine wpAnyH_take (i := 6) (v := .slice (some ⟨g, o, none⟩) n c) rfl (by kernel_rfl) (by kernel_rfl) (by kernel_rfl) (fun _ _ _ h => h) (Or.inl ⟨by kernel_rfl, fun w hSw => ?_⟩) hS1 ?_
                  · obtain ⟨e1, e2, e3, e4, e5, e6, e7, e8⟩ := hSw; go_simp
                  simp only [Act.put, List.getElem_toArray, List.getElem_cons_succ, List.getElem_cons_zero, List.setIfInBounds_toArray, List.set_cons_zero, List.set_cons_succ]
                  refine wpAnyH_take (i := 7) (v := .int .i64 (k : Int)) rfl (by kernel_rfl) (by kernel_rfl) (by kernel_rfl) (fun _ _ _ h => h) (Or.inl ⟨by kernel_rfl, fun w hSw => ?_⟩) hS1 ?_
                  · obtain ⟨e1, e2, e3, e4, e5, e6, e7, e8⟩ := hSw; go_simp
                  simp only [Act.put, List.getElem_toArray, List.getElem_cons_succ, List.getElem_cons_zero, List.setIfInBounds_toArray, List.set_cons_zero, List.set_cons_succ]
                  refine wpAnyH_take (i := 8) (v := .pointer (some ⟨g, o + k * 8, none⟩)) rfl (by kernel_rfl) (by kernel_rfl) (by kernel_rfl) (fun _ _ _ h => h) (Or.inl ⟨by kernel_rfl, fun w hSw => ?_⟩) hS1 ?_
                  · obtain ⟨e1, e2, e3, e4, e5, e6, e7, e8⟩ := hSw; go_simp
                  simp only [Act.put, List.getElem_toArray, List.getElem_cons_succ, List.getElem_cons_zero, List.setIfInBounds_toArray, List.set_cons_zero, List.set_cons_succ]
                  refine wpAnyH_take (i := 9) (v := .pointer (some ⟨g, o + k * 8 + 2, none⟩)) rfl (by kernel_rfl) (by kernel_rfl) (by kernel_rfl) (fun _ _ _ h => h) (Or.inl ⟨by kernel_rfl, fun w hSw => ?_⟩) hS1 ?_
                  · obtain ⟨e1, e2, e3, e4, e5, e6, e7, e8⟩ := hSw; go_simp
                  simp only [Act.put, List.getElem_toArray, List.getElem_cons_succ, List.getElem_cons_zero, List.setIfInBounds_toArray, List.set_cons_zero, List.set_cons_succ]
                  refine wpAnyH_take (i := 10) (v := .int .i64 tm) rfl (by kernel_rfl) (by kernel_rfl) (by kernel_rfl) (fun _ _ _ h => h) (Or.inl ⟨by kernel_rfl, fun w hSw => ?_⟩) hS1 ?_
                  · obtain ⟨e1, e2, e3, e4, e5, e6, e7, e8⟩ := hSw; go_simp
                  simp only [Act.put, List.getElem_toArray, List.getElem_cons_succ, List.getElem_cons_zero, List.setIfInBounds_toArray, List.set_cons_zero, List.set_cons_succ]
                  refine wpAnyH_take (i := 11) (v := .slice (some ⟨g, o, none⟩) n c) rfl (by kernel_rfl) (by kernel_rfl) (by kernel_rfl) (fun _ _ _ h => h) (Or.inl ⟨by kernel_rfl, fun w hSw => ?_⟩) hS1 ?_
                  · obtain ⟨e1, e2, e3, e4, e5, e6, e7, e8⟩ := hSw; go_simp
                  simp only [Act.put, List.getElem_toArray, List.getElem_cons_succ, List.getElem_cons_zero, List.setIfInBounds_toArray, List.set_cons_zero, List.set_cons_succ]
                  refine wpAnyH_take (i := 12) (v := .int .i64 (k : Int)) rfl (by kernel_rfl) (by kernel_rfl) (by kernel_rfl) (fun _ _ _ h => h) (Or.inl ⟨by kernel_rfl, fun w hSw => ?_⟩) hS1 ?_
                  · obtain ⟨e1, e2, e3, e4, e5, e6, e7, e8⟩ := hSw; go_simp
                  simp only [Act.put, List.getElem_toArray, List.getElem_cons_succ, List.getElem_cons_zero, List.setIfInBounds_toArray, List.set_cons_zero, List.set_cons_succ]
                  refine wpAnyH_take (i := 13) (v := .pointer (some ⟨g, o + k * 8, none⟩)) rfl (by kernel_rfl) (by kernel_rfl) (by kernel_rfl) (fun _ _ _ h => h) (Or.inl ⟨by kernel_rfl, fun w hSw => ?_⟩) hS1 ?_
                  · obtain ⟨e1, e2, e3, e4, e5, e6, e7, e8⟩ := hSw; go_simp
                  simp only [Act.put, List.getElem_toArray, List.getElem_cons_succ, List.getElem_cons_zero, List.setIfInBounds_toArray, List.set_cons_zero, List.set_cons_succ]
                  refine wpAnyH_take (i := 14) (v := .pointer (some ⟨g, o + k * 8 + 3, none⟩)) rfl (by kernel_rfl) (by kernel_rfl) (by kernel_rfl) (fun _ _ _ h => h) (Or.inl ⟨by kernel_rfl, fun w hSw => ?_⟩) hS1 ?_
                  · obtain ⟨e1, e2, e3, e4, e5, e6, e7, e8⟩ := hSw; go_simp
                  simp only [Act.put, List.getElem_toArray, List.getElem_cons_succ, List.getElem_cons_zero, List.setIfInBounds_toArray, List.set_cons_zero, List.set_cons_succ]
                  refine wpAnyH_take (i := 15) (v := .agg #[.int .i64 b1, .int .i64 b2]) rfl (by kernel_rfl) (by kernel_rfl) (by kernel_rfl) (fun _ _ _ h => h) (Or.inl ⟨by kernel_rfl, fun w hSw => ?_⟩) hS1 ?_
                  · obtain ⟨e1, e2, e3, e4, e5, e6, e7, e8⟩ := hSw; go_simp
                  simp only [Act.put, List.getElem_toArray, List.getElem_cons_succ, List.getElem_cons_zero, List.setIfInBounds_toArray, List.set_cons_zero, List.set_cons_succ]
                  refine wpAnyH_take (i := 16) (v := .slice (some ⟨g, o, none⟩) n c) rfl (by kernel_rfl) (by kernel_rfl) (by kernel_rfl) (fun _ _ _ h => h) (Or.inl ⟨by kernel_rfl, fun w hSw => ?_⟩) hS1 ?_
                  · obtain ⟨e1, e2, e3, e4, e5, e6, e7, e8⟩ := hSw; go_simp
                  simp only [Act.put, List.getElem_toArray, List.getElem_cons_succ, List.getElem_cons_zero, List.setIfInBounds_toArray, List.set_cons_zero, List.set_cons_succ]
                  refine wpAnyH_take (i := 17) (v := .int .i64 (k : Int)) rfl (by kernel_rfl) (by kernel_rfl) (by kernel_rfl) (fun _ _ _ h => h) (Or.inl ⟨by kernel_rfl, fun w hSw => ?_⟩) hS1 ?_
                  · obtain ⟨e1, e2, e3, e4, e5, e6, e7, e8⟩ := hSw; go_simp
                  simp only [Act.put, List.getElem_toArray, List.getElem_cons_succ, List.getElem_cons_zero, List.setIfInBounds_toArray, List.set_cons_zero, List.set_cons_succ]
                  refine wpAnyH_take (i := 18) (v := .pointer (some ⟨g, o + k * 8, none⟩)) rfl (by kernel_rfl) (by kernel_rfl) (by kernel_rfl) (fun _ _ _ h => h) (Or.inl ⟨by kernel_rfl, fun w hSw => ?_⟩) hS1 ?_
                  · obtain ⟨e1, e2, e3, e4, e5, e6, e7, e8⟩ := hSw; go_simp
                  simp only [Act.put, List.getElem_toArray, List.getElem_cons_succ, List.getElem_cons_zero, List.setIfInBounds_toArray, List.set_cons_zero, List.set_cons_succ]
                  refine wpAnyH_take (i := 19) (v := .pointer (some ⟨g, o + k * 8 + 5, none⟩)) rfl (by kernel_rfl) (by kernel_rfl) (by kernel_rfl) (fun _ _ _ h => h) (Or.inl ⟨by kernel_rfl, fun w hSw => ?_⟩) hS1 ?_
                  · obtain ⟨e1, e2, e3, e4, e5, e6, e7, e8⟩ := hSw; go_simp
                  simp only [Act.put, List.getElem_toArray, List.getElem_cons_succ, List.getElem_cons_zero, List.setIfInBounds_toArray, List.set_cons_zero, List.set_cons_succ]
                  refine wpAnyH_take (i := 20) (v := .agg #[.int .i64 p1, .int .i64 p2]) rfl (by kernel_rfl) (by kernel_rfl) (by kernel_rfl) (fun _ _ _ h => h) (Or.inl ⟨by kernel_rfl, fun w hSw => ?_⟩) hS1 ?_
                  · obtain ⟨e1, e2, e3, e4, e5, e6, e7, e8⟩ := hSw; go_simp
                  simp only [Act.put, List.getElem_toArray, List.getElem_cons_succ, List.getElem_cons_zero, List.setIfInBounds_toArray, List.set_cons_zero, List.set_cons_succ]
                  refine wpAnyH_take (i := 21) (v := .slice (some ⟨g, o, none⟩) n c) rfl (by kernel_rfl) (by kernel_rfl) (by kernel_rfl) (fun _ _ _ h => h) (Or.inl ⟨by kernel_rfl, fun w hSw => ?_⟩) hS1 ?_
                  · obtain ⟨e1, e2, e3, e4, e5, e6, e7, e8⟩ := hSw; go_simp
                  simp only [Act.put, List.getElem_toArray, List.getElem_cons_succ, List.getElem_cons_zero, List.setIfInBounds_toArray, List.set_cons_zero, List.set_cons_succ]
                  refine wpAnyH_take (i := 22) (v := .int .i64 (k : Int)) rfl (by kernel_rfl) (by kernel_rfl) (by kernel_rfl) (fun _ _ _ h => h) (Or.inl ⟨by kernel_rfl, fun w hSw => ?_⟩) hS1 ?_
                  · obtain ⟨e1, e2, e3, e4, e5, e6, e7, e8⟩ := hSw; go_simp
                  simp only [Act.put, List.getElem_toArray, List.getElem_cons_succ, List.getElem_cons_zero, List.setIfInBounds_toArray, List.set_cons_zero, List.set_cons_succ]
                  refine wpAnyH_take (i := 23) (v := .pointer (some ⟨g, o + k * 8, none⟩)) rfl (by kernel_rfl) (by kernel_rfl) (by kernel_rfl) (fun _ _ _ h => h) (Or.inl ⟨by kernel_rfl, fun w hSw => ?_⟩) hS1 ?_
                  · obtain ⟨e1, e2, e3, e4, e5, e6, e7, e8⟩ := hSw; go_simp
                  simp only [Act.put, List.getElem_toArray, List.getElem_cons_succ, List.getElem_cons_zero, List.setIfInBounds_toArray, List.set_cons_zero, List.set_cons_succ]
                  refine wpAnyH_take (i := 24) (v := .pointer (some ⟨g, o + k * 8 + 7, none⟩)) rfl (by kernel_rfl) (by kernel_rfl) (by kernel_rfl) (fun _ _ _ h => h) (Or.inl ⟨by kernel_rfl, fun w hSw => ?_⟩) hS1 ?_
                  · obtain ⟨e1, e2, e3, e4, e5, e6, e7, e8⟩ := hSw; go_simp
                  simp only [Act.put, List.getElem_toArray, List.getElem_cons_succ, List.getElem_cons_zero, List.setIfInBounds_toArray, List.set_cons_zero, List.set_cons_succ]
                  refine wpAnyH_take (i := 25) (v := .string ky) rfl (by kernel_rfl) (by kernel_rfl) (by kernel_rfl) (fun _ _ _ h => h) (Or.inl ⟨by kernel_rfl, fun w hSw => ?_⟩) hS1 ?_
                  · obtain ⟨e1, e2, e3, e4, e5, e6, e7, e8⟩ := hSw; go_simp
                  simp only [Act.put, List.getElem_toArray, List.getElem_cons_succ, List.getElem_cons_zero, List.setIfInBounds_toArray, List.set_cons_zero, List.set_cons_succ]
                  refine wpAnyH_ready (rs := [26]) (by kernel_rfl) (by simp) ?_
                  refine AllReadyH.cons rfl (fun K hK => ?_) AllReadyH.nil
                  go_simp
                  refine HM1.mono ?_
                  rintro e V1 ⟨rfl, SV1, H4⟩
                  refine hK.out _ _ SV1 (fun _ => ?_)
                  clear hK K
                  refine wpAnyH_done (by kernel_rfl) ?_ _
                  clear HM1 hS1 SV1
                  have hS2 := HZL.out V1 H4.out.2
                  go_wp2_with fail
                  refine wp_region_held_drew (S := fun w' => w'.cell? ⟨zg, zo + k * 8, none⟩ = some (.int .i64 zi1) ∧ w'.cell? ⟨zg, zo + k * 8 + 1, none⟩ = some (.int .i64 zi2) ∧ w'.cell? ⟨zg, zo + k * 8 + 2, none⟩ = some (.int .i64 ztm) ∧ w'.cell? ⟨zg, zo + k * 8 + 3, none⟩ = some (.int .i64 zb1) ∧ w'.cell? ⟨zg, zo + k * 8 + 4, none⟩ = some (.int .i64 zb2) ∧ w'.cell? ⟨zg, zo + k * 8 + 5, none⟩ = some (.int .i64 zp1) ∧ w'.cell? ⟨zg, zo + k * 8 + 6, none⟩ = some (.int .i64 zp2) ∧ w'.cell? ⟨zg, zo + k * 8 + 7, none⟩ = some (.string zky)) hmxo hS2 ?_
                  intro _
                  refine wpAnyH_take (i := 0) (v := .pointer (some ⟨t, 0, none⟩)) rfl (by kernel_rfl) (by kernel_rfl) (by kernel_rfl) (fun _ _ _ h => h) (Or.inl ⟨by kernel_rfl, fun w hSw => ?_⟩) hS2 ?_
                  · obtain ⟨e1, e2, e3, e4, e5, e6, e7, e8⟩ := hSw; go_simp
                  simp only [Act.put, List.getElem_toArray, List.getElem_cons_succ, List.getElem_cons_zero, List.setIfInBounds_toArray, List.set_cons_zero, List.set_cons_succ]
                  refine wpAnyH_take (i := 1) (v := .slice (some ⟨zg, zo, none⟩) n mc) rfl (by kernel_rfl) (by kernel_rfl) (by kernel_rfl) (fun _ _ _ h => h) (Or.inl ⟨by kernel_rfl, fun w hSw => ?_⟩) hS2 ?_
                  · obtain ⟨e1, e2, e3, e4, e5, e6, e7, e8⟩ := hSw; go_simp
                  simp only [Act.put, List.getElem_toArray, List.getElem_cons_succ, List.getElem_cons_zero, List.setIfInBounds_toArray, List.set_cons_zero, List.set_cons_succ]
                  refine wpAnyH_take (i := 2) (v := .int .i64 (k : Int)) rfl (by kernel_rfl) (by kernel_rfl) (by kernel_rfl) (fun _ _ _ h => h) (Or.inl ⟨by kernel_rfl, fun w hSw => ?_⟩) hS2 ?_
                  · obtain ⟨e1, e2, e3, e4, e5, e6, e7, e8⟩ := hSw; go_simp
                  simp only [Act.put, List.getElem_toArray, List.getElem_cons_succ, List.getElem_cons_zero, List.setIfInBounds_toArray, List.set_cons_zero, List.set_cons_succ]
                  refine wpAnyH_take (i := 3) (v := .pointer (some ⟨zg, zo + k * 8, none⟩)) rfl (by kernel_rfl) (by kernel_rfl) (by kernel_rfl) (fun _ _ _ h => h) (Or.inl ⟨by kernel_rfl, fun w hSw => ?_⟩) hS2 ?_
                  · obtain ⟨e1, e2, e3, e4, e5, e6, e7, e8⟩ := hSw; go_simp
                  simp only [Act.put, List.getElem_toArray, List.getElem_cons_succ, List.getElem_cons_zero, List.setIfInBounds_toArray, List.set_cons_zero, List.set_cons_succ]
                  refine wpAnyH_take (i := 4) (v := .pointer (some ⟨zg, zo + k * 8, none⟩)) rfl (by kernel_rfl) (by kernel_rfl) (by kernel_rfl) (fun _ _ _ h => h) (Or.inl ⟨by kernel_rfl, fun w hSw => ?_⟩) hS2 ?_
                  · obtain ⟨e1, e2, e3, e4, e5, e6, e7, e8⟩ := hSw; go_simp
                  simp only [Act.put, List.getElem_toArray, List.getElem_cons_succ, List.getElem_cons_zero, List.setIfInBounds_toArray, List.set_cons_zero, List.set_cons_succ]
                  refine wpAnyH_take (i := 5) (v := .agg #[.int .i64 zi1, .int .i64 zi2]) rfl (by kernel_rfl) (by kernel_rfl) (by kernel_rfl) (fun _ _ _ h => h) (Or.inl ⟨by kernel_rfl, fun w hSw => ?_⟩) hS2 ?_
                  · obtain ⟨e1, e2, e3, e4, e5, e6, e7, e8⟩ := hSw; go_simp
                  simp only [Act.put, List.getElem_toArray, List.getElem_cons_succ, List.getElem_cons_zero, List.setIfInBounds_toArray, List.set_cons_zero, List.set_cons_succ]
                  refine wpAnyH_take (i := 6) (v := .slice (some ⟨zg, zo, none⟩) n mc) rfl (by kernel_rfl) (by kernel_rfl) (by kernel_rfl) (fun _ _ _ h => h) (Or.inl ⟨by kernel_rfl, fun w hSw => ?_⟩) hS2 ?_
                  · obtain ⟨e1, e2, e3, e4, e5, e6, e7, e8⟩ := hSw; go_simp
                  simp only [Act.put, List.getElem_toArray, List.getElem_cons_succ, List.getElem_cons_zero, List.setIfInBounds_toArray, List.set_cons_zero, List.set_cons_succ]
                  refine wpAnyH_take (i := 7) (v := .int .i64 (k : Int)) rfl (by kernel_rfl) (by kernel_rfl) (by kernel_rfl) (fun _ _ _ h => h) (Or.inl ⟨by kernel_rfl, fun w hSw => ?_⟩) hS2 ?_
                  · obtain ⟨e1, e2, e3, e4, e5, e6, e7, e8⟩ := hSw; go_simp
                  simp only [Act.put, List.getElem_toArray, List.getElem_cons_succ, List.getElem_cons_zero, List.setIfInBounds_toArray, List.set_cons_zero, List.set_cons_succ]
                  refine wpAnyH_take (i := 8) (v := .pointer (some ⟨zg, zo + k * 8, none⟩)) rfl (by kernel_rfl) (by kernel_rfl) (by kernel_rfl) (fun _ _ _ h => h) (Or.inl ⟨by kernel_rfl, fun w hSw => ?_⟩) hS2 ?_
                  · obtain ⟨e1, e2, e3, e4, e5, e6, e7, e8⟩ := hSw; go_simp
                  simp only [Act.put, List.getElem_toArray, List.getElem_cons_succ, List.getElem_cons_zero, List.setIfInBounds_toArray, List.set_cons_zero, List.set_cons_succ]
                  refine wpAnyH_take (i := 9) (v := .pointer (some ⟨zg, zo + k * 8 + 2, none⟩)) rfl (by kernel_rfl) (by kernel_rfl) (by kernel_rfl) (fun _ _ _ h => h) (Or.inl ⟨by kernel_rfl, fun w hSw => ?_⟩) hS2 ?_
                  · obtain ⟨e1, e2, e3, e4, e5, e6, e7, e8⟩ := hSw; go_simp
                  simp only [Act.put, List.getElem_toArray, List.getElem_cons_succ, List.getElem_cons_zero, List.setIfInBounds_toArray, List.set_cons_zero, List.set_cons_succ]
                  refine wpAnyH_take (i := 10) (v := .int .i64 ztm) rfl (by kernel_rfl) (by kernel_rfl) (by kernel_rfl) (fun _ _ _ h => h) (Or.inl ⟨by kernel_rfl, fun w hSw => ?_⟩) hS2 ?_
                  · obtain ⟨e1, e2, e3, e4, e5, e6, e7, e8⟩ := hSw; go_simp
                  simp only [Act.put, List.getElem_toArray, List.getElem_cons_succ, List.getElem_cons_zero, List.setIfInBounds_toArray, List.set_cons_zero, List.set_cons_succ]
                  refine wpAnyH_take (i := 11) (v := .slice (some ⟨zg, zo, none⟩) n mc) rfl (by kernel_rfl) (by kernel_rfl) (by kernel_rfl) (fun _ _ _ h => h) (Or.inl ⟨by kernel_rfl, fun w hSw => ?_⟩) hS2 ?_
                  · obtain ⟨e1, e2, e3, e4, e5, e6, e7, e8⟩ := hSw; go_simp
                  simp only [Act.put, List.getElem_toArray, List.getElem_cons_succ, List.getElem_cons_zero, List.setIfInBounds_toArray, List.set_cons_zero, List.set_cons_succ]
                  refine wpAnyH_take (i := 12) (v := .int .i64 (k : Int)) rfl (by kernel_rfl) (by kernel_rfl) (by kernel_rfl) (fun _ _ _ h => h) (Or.inl ⟨by kernel_rfl, fun w hSw => ?_⟩) hS2 ?_
                  · obtain ⟨e1, e2, e3, e4, e5, e6, e7, e8⟩ := hSw; go_simp
                  simp only [Act.put, List.getElem_toArray, List.getElem_cons_succ, List.getElem_cons_zero, List.setIfInBounds_toArray, List.set_cons_zero, List.set_cons_succ]
                  refine wpAnyH_take (i := 13) (v := .pointer (some ⟨zg, zo + k * 8, none⟩)) rfl (by kernel_rfl) (by kernel_rfl) (by kernel_rfl) (fun _ _ _ h => h) (Or.inl ⟨by kernel_rfl, fun w hSw => ?_⟩) hS2 ?_
                  · obtain ⟨e1, e2, e3, e4, e5, e6, e7, e8⟩ := hSw; go_simp
                  simp only [Act.put, List.getElem_toArray, List.getElem_cons_succ, List.getElem_cons_zero, List.setIfInBounds_toArray, List.set_cons_zero, List.set_cons_succ]
                  refine wpAnyH_take (i := 14) (v := .pointer (some ⟨zg, zo + k * 8 + 3, none⟩)) rfl (by kernel_rfl) (by kernel_rfl) (by kernel_rfl) (fun _ _ _ h => h) (Or.inl ⟨by kernel_rfl, fun w hSw => ?_⟩) hS2 ?_
                  · obtain ⟨e1, e2, e3, e4, e5, e6, e7, e8⟩ := hSw; go_simp
                  simp only [Act.put, List.getElem_toArray, List.getElem_cons_succ, List.getElem_cons_zero, List.setIfInBounds_toArray, List.set_cons_zero, List.set_cons_succ]
                  refine wpAnyH_take (i := 15) (v := .agg #[.int .i64 zb1, .int .i64 zb2]) rfl (by kernel_rfl) (by kernel_rfl) (by kernel_rfl) (fun _ _ _ h => h) (Or.inl ⟨by kernel_rfl, fun w hSw => ?_⟩) hS2 ?_
                  · obtain ⟨e1, e2, e3, e4, e5, e6, e7, e8⟩ := hSw; go_simp
                  simp only [Act.put, List.getElem_toArray, List.getElem_cons_succ, List.getElem_cons_zero, List.setIfInBounds_toArray, List.set_cons_zero, List.set_cons_succ]
                  refine wpAnyH_take (i := 16) (v := .slice (some ⟨zg, zo, none⟩) n mc) rfl (by kernel_rfl) (by kernel_rfl) (by kernel_rfl) (fun _ _ _ h => h) (Or.inl ⟨by kernel_rfl, fun w hSw => ?_⟩) hS2 ?_
                  · obtain ⟨e1, e2, e3, e4, e5, e6, e7, e8⟩ := hSw; go_simp
                  simp only [Act.put, List.getElem_toArray, List.getElem_cons_succ, List.getElem_cons_zero, List.setIfInBounds_toArray, List.set_cons_zero, List.set_cons_succ]
                  refine wpAnyH_take (i := 17) (v := .int .i64 (k : Int)) rfl (by kernel_rfl) (by kernel_rfl) (by kernel_rfl) (fun _ _ _ h => h) (Or.inl ⟨by kernel_rfl, fun w hSw => ?_⟩) hS2 ?_
                  · obtain ⟨e1, e2, e3, e4, e5, e6, e7, e8⟩ := hSw; go_simp
                  simp only [Act.put, List.getElem_toArray, List.getElem_cons_succ, List.getElem_cons_zero, List.setIfInBounds_toArray, List.set_cons_zero, List.set_cons_succ]
                  refine wpAnyH_take (i := 18) (v := .pointer (some ⟨zg, zo + k * 8, none⟩)) rfl (by kernel_rfl) (by kernel_rfl) (by kernel_rfl) (fun _ _ _ h => h) (Or.inl ⟨by kernel_rfl, fun w hSw => ?_⟩) hS2 ?_
                  · obtain ⟨e1, e2, e3, e4, e5, e6, e7, e8⟩ := hSw; go_simp
                  simp only [Act.put, List.getElem_toArray, List.getElem_cons_succ, List.getElem_cons_zero, List.setIfInBounds_toArray, List.set_cons_zero, List.set_cons_succ]
                  refine wpAnyH_take (i := 19) (v := .pointer (some ⟨zg, zo + k * 8 + 5, none⟩)) rfl (by kernel_rfl) (by kernel_rfl) (by kernel_rfl) (fun _ _ _ h => h) (Or.inl ⟨by kernel_rfl, fun w hSw => ?_⟩) hS2 ?_
                  · obtain ⟨e1, e2, e3, e4, e5, e6, e7, e8⟩ := hSw; go_simp
                  simp only [Act.put, List.getElem_toArray, List.getElem_cons_succ, List.getElem_cons_zero, List.setIfInBounds_toArray, List.set_cons_zero, List.set_cons_succ]
                  refine wpAnyH_take (i := 20) (v := .agg #[.int .i64 zp1, .int .i64 zp2]) rfl (by kernel_rfl) (by kernel_rfl) (by kernel_rfl) (fun _ _ _ h => h) (Or.inl ⟨by kernel_rfl, fun w hSw => ?_⟩) hS2 ?_
                  · obtain ⟨e1, e2, e3, e4, e5, e6, e7, e8⟩ := hSw; go_simp
                  simp only [Act.put, List.getElem_toArray, List.getElem_cons_succ, List.getElem_cons_zero, List.setIfInBounds_toArray, List.set_cons_zero, List.set_cons_succ]
                  refine wpAnyH_take (i := 21) (v := .slice (some ⟨zg, zo, none⟩) n mc) rfl (by kernel_rfl) (by kernel_rfl) (by kernel_rfl) (fun _ _ _ h => h) (Or.inl ⟨by kernel_rfl, fun w hSw => ?_⟩) hS2 ?_
                  · obtain ⟨e1, e2, e3, e4, e5, e6, e7, e8⟩ := hSw; go_simp
                  simp only [Act.put, List.getElem_toArray, List.getElem_cons_succ, List.getElem_cons_zero, List.setIfInBounds_toArray, List.set_cons_zero, List.set_cons_succ]
                  refine wpAnyH_take (i := 22) (v := .int .i64 (k : Int)) rfl (by kernel_rfl) (by kernel_rfl) (by kernel_rfl) (fun _ _ _ h => h) (Or.inl ⟨by kernel_rfl, fun w hSw => ?_⟩) hS2 ?_
                  · obtain ⟨e1, e2, e3, e4, e5, e6, e7, e8⟩ := hSw; go_simp
                  simp only [Act.put, List.getElem_toArray, List.getElem_cons_succ, List.getElem_cons_zero, List.setIfInBounds_toArray, List.set_cons_zero, List.set_cons_succ]
                  refine wpAnyH_take (i := 23) (v := .pointer (some ⟨zg, zo + k * 8, none⟩)) rfl (by kernel_rfl) (by kernel_rfl) (by kernel_rfl) (fun _ _ _ h => h) (Or.inl ⟨by kernel_rfl, fun w hSw => ?_⟩) hS2 ?_
                  · obtain ⟨e1, e2, e3, e4, e5, e6, e7, e8⟩ := hSw; go_simp
                  simp only [Act.put, List.getElem_toArray, List.getElem_cons_succ, List.getElem_cons_zero, List.setIfInBounds_toArray, List.set_cons_zero, List.set_cons_succ]
                  refine wpAnyH_take (i := 24) (v := .pointer (some ⟨zg, zo + k * 8 + 7, none⟩)) rfl (by kernel_rfl) (by kernel_rfl) (by kernel_rfl) (fun _ _ _ h => h) (Or.inl ⟨by kernel_rfl, fun w hSw => ?_⟩) hS2 ?_
                  · obtain ⟨e1, e2, e3, e4, e5, e6, e7, e8⟩ := hSw; go_simp
                  simp only [Act.put, List.getElem_toArray, List.getElem_cons_succ, List.getElem_cons_zero, List.setIfInBounds_toArray, List.set_cons_zero, List.set_cons_succ]
                  refine wpAnyH_take (i := 25) (v := .string zky) rfl (by kernel_rfl) (by kernel_rfl) (by kernel_rfl) (fun _ _ _ h => h) (Or.inl ⟨by kernel_rfl, fun w hSw => ?_⟩) hS2 ?_
                  · obtain ⟨e1, e2, e3, e4, e5, e6, e7, e8⟩ := hSw; go_simp
                  simp only [Act.put, List.getElem_toArray, List.getElem_cons_succ, List.getElem_cons_zero, List.setIfInBounds_toArray, List.set_cons_zero, List.set_cons_succ]
                  refine wpAnyH_ready (rs := [26]) (by kernel_rfl) (by simp) ?_
                  refine AllReadyH.cons rfl (fun K hK => ?_) AllReadyH.nil
                  go_simp
                  refine (HM2.out V1 H4.out).mono ?_
                  rintro e V2 ⟨rfl, SV2, H5⟩
                  refine hK.out _ _ SV2 (fun _ => ?_)
                  clear hK K
                  refine wpAnyH_done (by kernel_rfl) ?_ _
                  clear hS2 SV2
                  go_wp2
                  go_roundw
                  case rel => exact ⟨k + 1, by omega, by go_num, H5⟩
                  case measure => simp [intOf]; omega
                · obtain rfl : n = k := by omega
                  have hb1 : decide ((n : Int) < (n : Int)) = false := by simp
                  obtain ⟨l, hl⟩ : ∃ l, l = tr L := ⟨_, rfl⟩
                  have hLn : L.take n = L := List.take_of_length_le (by rw [HLlen.out]; exact Nat.le_refl _)
                  have hMn : M.take n = M := List.take_of_length_le (by rw [HM5.out.len]; exact Nat.le_refl _)
                  rw [hLn, hMn, tr_perm HND.out HPe.out, ← hl] at S4
                  have hll : l.length ≤ 40 := by rw [hl]; have := tr_len L; rw [HLlen.out] at this; omega
                  clear hl hLn hMn
                  have HBl1 := (blocks_d2 S4.out.1).mono (R' := fun e V => ∃ ab nb cb, e = .returned (.slice ab nb cb) ∧ Hid (PS V ab nb cb (blks l) ∧ D2 V s t l l (fun j => P j ∨ ∃ ad, ab = some ad ∧ ad.block = j) ∧ Below W5.heap.size W5 V ∧ nb ≤ 40)) (fun e V g => by
                    obtain ⟨a', c', g1, g2, g3, g4⟩ := g
                    exact ⟨a', _, c', g1, hid ⟨g2, g3, S4.out.2.trans (KP.bel (by rw [HP.out] at g4; exact g4)), by have := blks_len l; omega⟩⟩)
                  clear S4
                  go_upto_region 33 with (go_at_call 14; refine HBl1.mono ?_; rintro e W8 ⟨ab, nb, cb, rfl, H8⟩)
                  clear HBl1
                  obtain ⟨hps8, hD8, hB8, hnb⟩ := H8.out
                  clear H8
                  obtain ⟨Pb, hPb⟩ : ∃ Pb : Nat → Prop, Pb = (fun j => P j ∨ ∃ ad, ab = some ad ∧ ad.block = j) := ⟨_, rfl⟩
                  rw [← hPb] at hD8
                  have HPb := hid hPb
                  have HPS8 := hid hps8
                  have H8B := hid hB8
                  have hcb := hps8.cap
                  have HBl2 := (blocks_d2 hD8.symm).mono (R' := fun e V => ∃ a2 n2 c2, e = .returned (.slice a2 n2 c2) ∧ Hid (PS V a2 n2 c2 (blks l) ∧ D2 V s t l l Pb ∧ KP Pb W8 V)) (fun e V g => by
                    obtain ⟨a', c', g1, g2, g3, g4⟩ := g
                    exact ⟨a', _, c', g1, hid ⟨g2, g3.symm.mono (fun j hj => Or.inl hj), g4⟩⟩)
                  have HSa : Hid (∀ V a2 n2 c2, (PS V a2 n2 c2 (blks l) ∧ D2 V s t l l Pb ∧ KP Pb W8 V) → Calls Try.prog 15 #[.slice ab nb cb, .slice a2 n2 c2] V fun e V' => e = .returned (.bool true) ∧ Hid (D2 V' s t l l Pb ∧ KP Pb W8 V')) := hid (fun V a2 n2 c2 h => (fsame_any (HPS8.out.same (fun ad e => h.2.2.keep _ (by rw [HPb.out]; exact Or.inr ⟨ad, e, rfl⟩))) (ps_small HPS8.out) h.1 (ps_small h.1)).mono (fun e V' g => ⟨by rw [g.1, decide_eq_true (rfl : blks l = blks l)], hid ⟨h.2.1.below g.2, h.2.2.trans (KP.below g.2 h.2.1.lt)⟩⟩))
                  clear hPb hps8 hB8 hD8
                  go_wp2_with (first
                    | (go_at_call 15; refine (HSa.out _ _ _ _ S9.out).mono ?_; rintro e V9 ⟨rfl, S10⟩)
                    | (go_at_call 14; refine HBl2.mono ?_; rintro e V8 ⟨a2, n2, c2, rfl, S9⟩))
                  clear HBl2 HSa S9
                  go_loopw [16] (fun i wr5 => ∃ i5 : Nat, i5 ≤ nb ∧ i = .int .i64 i5 ∧ Hid (D2 wr5 s t l l Pb ∧ KP Pb W8 wr5)) (fun i _ => nb - (intOf i).toNat)
                  case atStart => exact ⟨0, by omega, rfl, S10⟩
                  case round =>
                    clear S10
                    obtain ⟨i5, hi5, rfl, S5⟩ := hrel
                    by_cases hil : i5 < nb
                    · have hb1 : decide ((i5 : Int) < (nb : Int)) = true := by simp [hil]
                      obtain ⟨⟨b1, b2⟩, hb⟩ : ∃ d, (blks l)[i5]? = some d := ⟨_, List.getElem?_eq_getElem (by rw [HPS8.out.len]; exact hil)⟩
                      have hbm : (b1, b2) ∈ blks l := List.mem_of_getElem? hb
                      have hbw := blks_dw S5.out.1.log.2.1 _ hbm
                      obtain ⟨⟨⟨p1, p2⟩, pk⟩, hq⟩ := Option.isSome_iff_exists.1 (blks_mem.1 hbm)
                      obtain ⟨gb, ob, rfl, hgb, _, hlk⟩ := HPS8.out.look hb
                      have hPg : Pb gb := by rw [HPb.out]; exact Or.inr ⟨_, rfl, rfl⟩
                      have HAC : Hid (∀ V, KP Pb W8 V → (V.cell? ⟨gb, ob + i5 * 2, none⟩ = some (.int .i64 b1) ∧ V.cell? ⟨gb, ob + i5 * 2 + 1, none⟩ = some (.int .i64 b2))) := hid (fun V hV => hlk V (hV.keep gb hPg))
                      obtain ⟨kb0, kb1⟩ := HAC.out _ S5.out.2
                      have HPar1 := (parent_d2 (b1, b2) S5.out.1 hbw).mono (R' := fun e V => e = .returned (.tuple #[.agg #[.int .i64 p1, .int .i64 p2], .string pk, .bool true]) ∧ Hid (D2 V s t l l Pb ∧ KP Pb W8 V)) (fun e V g => by
                        rw [hq] at g
                        exact ⟨g.1, hid ⟨g.2.1, S5.out.2.trans g.2.2⟩⟩)
                      have HPar2 : Hid (∀ V X, (D2 V s t l l Pb ∧ KP Pb W8 V) → X = V.alloc (.cells #[.int .i64 p1, .int .i64 p2] 24) → Calls Try.prog 16 #[.pointer (some ⟨t, 0, none⟩), .agg #[.int .i64 b1, .int .i64 b2]] X fun e V' => e = .returned (.tuple #[.agg #[.int .i64 p1, .int .i64 p2], .string pk, .bool true]) ∧ Hid (D2 V' s t l l (fun j => Pb j ∨ j = V.heap.size) ∧ KP (fun j => Pb j ∨ j = V.heap.size) X V')) := hid (fun V X hV hX => by
                        have := parent_d2 (b1, b2) (hV.1.symm.alloc (.cells #[.int .i64 p1, .int .i64 p2] 24)) hbw
                        rw [hq] at this
                        rw [hX]
                        exact this.mono (fun e V' g => ⟨g.1, hid ⟨g.2.1.symm, g.2.2⟩⟩))
                      have HBW := hid hbw
                      have hib : (i5 : Int) < (nb : Int) := by omega
                      clear hb hbm hbw hq hlk hgb
                      go_upto_region 39 with (go_at_call 16; refine HPar1.mono ?_; rintro e V1 ⟨rfl, S6⟩)
                      clear HPar1 kb0 kb1
                      obtain ⟨X1, hX1⟩ : ∃ X1, X1 = V1.alloc (.cells #[.int .i64 p1, .int .i64 p2] 24) := ⟨_, rfl⟩
                      rw [← hX1]
                      have hbX1 : Below V1.heap.size V1 X1 := by rw [hX1]; exact (Below.refl _ V1).alloc (Nat.le_refl _) _
                      obtain ⟨kb0, kb1⟩ := HAC.out X1 (S6.out.2.trans (KP.below hbX1 S6.out.1.lt))
                      have HP2 := HPar2.out V1 X1 S6.out hX1
                      have hz1 : X1.heap.size = V1.heap.size + 1 := by rw [hX1]; simp
                      have hbp : X1.heap[V1.heap.size]? = some (.cells #[.int .i64 p1, .int .i64 p2] 24 (0, 0)) := by rw [hX1]; exact World.alloc_heap_new V1 _
                      obtain ⟨pb, hpb⟩ : ∃ pb, pb = V1.heap.size := ⟨_, rfl⟩
                      rw [← hpb] at HP2 hz1 hbp ⊢
                      have HBP := hid hbp
                      have HZ1 := hid hz1
                      have HPB := hid hpb
                      have HX1 := hid hbX1
                      clear hX1 hz1 hbp hpb HPar2 hbX1
                      go_upto_region 40 with (go_at_call 16; refine HP2.mono ?_; rintro e V2 ⟨rfl, S7⟩)
                      clear HP2 kb0 kb1
                      obtain ⟨X2, hX2⟩ : ∃ X2, X2 = V2.alloc (.cells #[.int .i64 p1, .int .i64 p2] 24) := ⟨_, rfl⟩
                      rw [← hX2]
                      have hbX2 : Below V2.heap.size V2 X2 := by rw [hX2]; exact (Below.refl _ V2).alloc (Nat.le_refl _) _
                      have hbq : X2.heap[V2.heap.size]? = some (.cells #[.int .i64 p1, .int .i64 p2] 24 (0, 0)) := by rw [hX2]; exact World.alloc_heap_new V2 _
                      obtain ⟨qb, hqb⟩ : ∃ qb, qb = V2.heap.size := ⟨_, rfl⟩
                      have hD2 : D2 X2 s t l l (fun j => (Pb j ∨ j = pb) ∨ j = qb) := by rw [hX2, hqb]; exact S7.out.1.alloc _
                      rw [← hqb] at hbq ⊢
                      obtain ⟨Pq, hPq⟩ : ∃ Pq : Nat → Prop, Pq = (fun j => (Pb j ∨ j = pb) ∨ j = qb) := ⟨_, rfl⟩
                      rw [← hPq] at hD2
                      have HBk : Hid (∀ V, KP Pq X2 V → KP Pb W8 V) := hid (fun V hV => (S6.out.2.trans (KP.below HX1.out S6.out.1.lt)).trans (((S7.out.2.mono (fun j hj => Or.inl hj)).trans (KP.below hbX2 (fun j hj => S7.out.1.lt j (Or.inl hj)))).trans (hV.mono (fun j hj => by rw [hPq]; exact Or.inl (Or.inl hj)))))
                      have HSK : Hid (∀ V, KP Pq X2 V → (V.cell? ⟨pb, 0, none⟩ = some (.int .i64 p1) ∧ V.cell? ⟨pb, 1, none⟩ = some (.int .i64 p2) ∧ V.cell? ⟨qb, 0, none⟩ = some (.int .i64 p1) ∧ V.cell? ⟨qb, 1, none⟩ = some (.int .i64 p2) ∧ V.cell? ⟨gb, ob + i5 * 2, none⟩ = some (.int .i64 b1) ∧ V.cell? ⟨gb, ob + i5 * 2 + 1, none⟩ = some (.int .i64 b2))) := hid (fun V hV => by
                        have e1 : V.heap[pb]? = some (.cells #[.int .i64 p1, .int .i64 p2] 24 (0, 0)) := (hV.keep pb (by rw [hPq]; exact Or.inl (Or.inr rfl))).trans ((hbX2.block pb (S7.out.1.lt pb (Or.inr rfl))).trans ((S7.out.2.keep pb (Or.inr rfl)).trans HBP.out))
                        have e2 : V.heap[qb]? = some (.cells #[.int .i64 p1, .int .i64 p2] 24 (0, 0)) := (hV.keep qb (by rw [hPq]; exact Or.inr rfl)).trans hbq
                        exact ⟨by simp [World.cell?, e1], by simp [World.cell?, e1], by simp [World.cell?, e2], by simp [World.cell?, e2], (HAC.out V (HBk.out V hV)).1, (HAC.out V (HBk.out V hV)).2⟩)
                      obtain ⟨K, hK⟩ : ∃ K, K = kidB (run l) (b1, b2) := ⟨_, rfl⟩
                      have HK1 : Calls Try.prog 17 #[.pointer (some ⟨s, 0, none⟩), .agg #[.int .i64 b1, .int .i64 b2]] X2.drew fun e V => ∃ a1 n1 c1, e = .returned (.slice a1 n1 c1) ∧ Hid (PS V a1 n1 c1 K ∧ D2 V s t l l (fun j => Pq j ∨ ∃ ad, a1 = some ad ∧ ad.block = j) ∧ KP Pq X2 V ∧ True) := (kids_d2 (b1, b2) hD2.drew HBW.out).mono (fun e V g => by
                        obtain ⟨a', c', g1, g2, g3, g4⟩ := g
                        rw [← hK] at g1 g2
                        exact ⟨a', _, c', g1, hid ⟨g2, g3, ⟨g4.size, g4.keep, g4.sm⟩, trivial⟩⟩)
                      have HK2 : Hid (∀ V a1 n1 c1, (PS V a1 n1 c1 K ∧ D2 V s t l l (fun j => Pq j ∨ ∃ ad, a1 = some ad ∧ ad.block = j) ∧ KP Pq X2 V ∧ True) → Calls Try.prog 17 #[.pointer (some ⟨t, 0, none⟩), .agg #[.int .i64 b1, .int .i64 b2]] V fun e V' => ∃ a2 n2 c2, e = .returned (.slice a2 n2 c2) ∧ Hid (PS V' a1 n1 c1 K ∧ PS V' a2 n2 c2 K ∧ D2 V' s t l l Pq ∧ KP Pq X2 V')) := hid (fun V a1 n1 c1 h => (kids_d2 (b1, b2) h.2.1.symm HBW.out).mono (fun e V' g => by
                        obtain ⟨a', c', g1, g2, g3, g4⟩ := g
                        rw [← hK] at g1 g2
                        exact ⟨a', _, c', g1, hid ⟨h.1.same (fun ad e => g4.keep _ (Or.inr ⟨ad, e, rfl⟩)), g2, g3.symm.mono (fun j hj => Or.inl (Or.inl hj)), h.2.2.1.trans (g4.mono (fun j hj => Or.inl hj))⟩⟩))
                      have HSm : Hid (∀ V a1 n1 c1 a2 n2 c2, (PS V a1 n1 c1 K ∧ PS V a2 n2 c2 K ∧ D2 V s t l l Pq ∧ KP Pq X2 V) → Calls Try.prog 15 #[.slice a1 n1 c1, .slice a2 n2 c2] V fun e V' => e = .returned (.bool true) ∧ Hid (D2 V' s t l l Pq ∧ KP Pq X2 V')) := hid (fun V a1 n1 c1 a2 n2 c2 h => (fsame_any h.1 (ps_small h.1) h.2.1 (ps_small h.2.1)).mono (fun e V' g => ⟨by rw [g.1, decide_eq_true (rfl : K = K)], hid ⟨h.2.2.1.below g.2, h.2.2.2.trans (KP.below g.2 h.2.2.1.lt)⟩⟩))
                      have hS4 : X2.drew.cell? ⟨pb, 0, none⟩ = some (.int .i64 p1) ∧ X2.drew.cell? ⟨pb, 1, none⟩ = some (.int .i64 p2) ∧ X2.drew.cell? ⟨qb, 0, none⟩ = some (.int .i64 p1) ∧ X2.drew.cell? ⟨qb, 1, none⟩ = some (.int .i64 p2) ∧ X2.drew.cell? ⟨gb, ob + i5 * 2, none⟩ = some (.int .i64 b1) ∧ X2.drew.cell? ⟨gb, ob + i5 * 2 + 1, none⟩ = some (.int .i64 b2) := HSK.out X2.drew ((KP.refl Pq X2).drew)
                      have HPQ := hid hPq
                      clear hK hPq hD2 hbq hqb hX2 hbX2
                      go_wp2_with fail
                      refine wp_region_held_drew (S := fun w' => w'.cell? ⟨pb, 0, none⟩ = some (.int .i64 p1) ∧ w'.cell? ⟨pb, 1, none⟩ = some (.int .i64 p2) ∧ w'.cell? ⟨qb, 0, none⟩ = some (.int .i64 p1) ∧ w'.cell? ⟨qb, 1, none⟩ = some (.int .i64 p2) ∧ w'.cell? ⟨gb, ob + i5 * 2, none⟩ = some (.int .i64 b1) ∧ w'.cell? ⟨gb, ob + i5 * 2 + 1, none⟩ = some (.int .i64 b2)) hmxo hS4 ?_
                      intro _
                      refine wpAnyH_take (i := 0) (v := .agg #[.int .i64 p1, .int .i64 p2]) rfl (by kernel_rfl) (by kernel_rfl) (by kernel_rfl) (fun _ _ _ h => h) (Or.inl ⟨by kernel_rfl, fun w hSw => ?_⟩) hS4 ?_
                      · obtain ⟨e1, e2, e3, e4, e5, e6⟩ := hSw; go_simp
                      simp only [Act.put, List.getElem_toArray, List.getElem_cons_succ, List.getElem_cons_zero, List.setIfInBounds_toArray, List.set_cons_zero, List.set_cons_succ]
                      refine wpAnyH_take (i := 1) (v := .agg #[.int .i64 p1, .int .i64 p2]) rfl (by kernel_rfl) (by kernel_rfl) (by kernel_rfl) (fun _ _ _ h => h) (Or.inl ⟨by kernel_rfl, fun w hSw => ?_⟩) hS4 ?_
                      · obtain ⟨e1, e2, e3, e4, e5, e6⟩ := hSw; go_simp
                      simp only [Act.put, List.getElem_toArray, List.getElem_cons_succ, List.getElem_cons_zero, List.setIfInBounds_toArray, List.set_cons_zero, List.set_cons_succ]
                      refine wpAnyH_take (i := 2) (v := .bool false) rfl (by kernel_rfl) (by kernel_rfl) (by kernel_rfl) (fun _ _ _ h => h) (Or.inl ⟨by kernel_rfl, fun w hSw => ?_⟩) hS4 ?_
                      · obtain ⟨e1, e2, e3, e4, e5, e6⟩ := hSw; go_simp
                      simp only [Act.put, List.getElem_toArray, List.getElem_cons_succ, List.getElem_cons_zero, List.setIfInBounds_toArray, List.set_cons_zero, List.set_cons_succ]
                      refine wpAnyH_take (i := 3) (v := .bool false) rfl (by kernel_rfl) (by kernel_rfl) (by kernel_rfl) (fun _ _ _ h => h) (Or.inl ⟨by kernel_rfl, fun w hSw => ?_⟩) hS4 ?_
                      · obtain ⟨e1, e2, e3, e4, e5, e6⟩ := hSw; go_simp
                      simp only [Act.put, List.getElem_toArray, List.getElem_cons_succ, List.getElem_cons_zero, List.setIfInBounds_toArray, List.set_cons_zero, List.set_cons_succ]
                      refine wpAnyH_take (i := 4) (v := .string pk) rfl (by kernel_rfl) (by kernel_rfl) (by kernel_rfl) (fun _ _ _ h => h) (Or.inl ⟨by kernel_rfl, fun w hSw => ?_⟩) hS4 ?_
                      · obtain ⟨e1, e2, e3, e4, e5, e6⟩ := hSw; go_simp
                      simp only [Act.put, List.getElem_toArray, List.getElem_cons_succ, List.getElem_cons_zero, List.setIfInBounds_toArray, List.set_cons_zero, List.set_cons_succ]
                      refine wpAnyH_take (i := 5) (v := .string pk) rfl (by kernel_rfl) (by kernel_rfl) (by kernel_rfl) (fun _ _ _ h => h) (Or.inl ⟨by kernel_rfl, fun w hSw => ?_⟩) hS4 ?_
                      · obtain ⟨e1, e2, e3, e4, e5, e6⟩ := hSw; go_simp
                      simp only [Act.put, List.getElem_toArray, List.getElem_cons_succ, List.getElem_cons_zero, List.setIfInBounds_toArray, List.set_cons_zero, List.set_cons_succ]
                      refine wpAnyH_take (i := 6) (v := .bool false) rfl (by kernel_rfl) (by kernel_rfl) (by kernel_rfl) (fun _ _ _ h => h) (Or.inl ⟨by kernel_rfl, fun w hSw => ?_⟩) hS4 ?_
                      · obtain ⟨e1, e2, e3, e4, e5, e6⟩ := hSw; go_simp
                      simp only [Act.put, List.getElem_toArray, List.getElem_cons_succ, List.getElem_cons_zero, List.setIfInBounds_toArray, List.set_cons_zero, List.set_cons_succ]
                      refine wpAnyH_take (i := 7) (v := .bool false) rfl (by kernel_rfl) (by kernel_rfl) (by kernel_rfl) (fun _ _ _ h => h) (Or.inl ⟨by kernel_rfl, fun w hSw => ?_⟩) hS4 ?_
                      · obtain ⟨e1, e2, e3, e4, e5, e6⟩ := hSw; go_simp
                      simp only [Act.put, List.getElem_toArray, List.getElem_cons_succ, List.getElem_cons_zero, List.setIfInBounds_toArray, List.set_cons_zero, List.set_cons_succ]
                      refine wpAnyH_take (i := 8) (v := .bool false) rfl (by kernel_rfl) (by kernel_rfl) (by kernel_rfl) (fun _ _ _ h => h) (Or.inl ⟨by kernel_rfl, fun w hSw => ?_⟩) hS4 ?_
                      · obtain ⟨e1, e2, e3, e4, e5, e6⟩ := hSw; go_simp
                      simp only [Act.put, List.getElem_toArray, List.getElem_cons_succ, List.getElem_cons_zero, List.setIfInBounds_toArray, List.set_cons_zero, List.set_cons_succ]
                      refine wpAnyH_take (i := 9) (v := .bool true) rfl (by kernel_rfl) (by kernel_rfl) (by kernel_rfl) (fun _ _ _ h => h) (Or.inl ⟨by kernel_rfl, fun w hSw => ?_⟩) hS4 ?_
                      · obtain ⟨e1, e2, e3, e4, e5, e6⟩ := hSw; go_simp
                      simp only [Act.put, List.getElem_toArray, List.getElem_cons_succ, List.getElem_cons_zero, List.setIfInBounds_toArray, List.set_cons_zero, List.set_cons_succ]
                      refine wpAnyH_take (i := 10) (v := .bool false) rfl (by kernel_rfl) (by kernel_rfl) (by kernel_rfl) (fun _ _ _ h => h) (Or.inl ⟨by kernel_rfl, fun w hSw => ?_⟩) hS4 ?_
                      · obtain ⟨e1, e2, e3, e4, e5, e6⟩ := hSw; go_simp
                      simp only [Act.put, List.getElem_toArray, List.getElem_cons_succ, List.getElem_cons_zero, List.setIfInBounds_toArray, List.set_cons_zero, List.set_cons_succ]
                      refine wpAnyH_take (i := 11) (v := .bool false) rfl (by kernel_rfl) (by kernel_rfl) (by kernel_rfl) (fun _ _ _ h => h) (Or.inl ⟨by kernel_rfl, fun w hSw => ?_⟩) hS4 ?_
                      · obtain ⟨e1, e2, e3, e4, e5, e6⟩ := hSw; go_simp
                      simp only [Act.put, List.getElem_toArray, List.getElem_cons_succ, List.getElem_cons_zero, List.setIfInBounds_toArray, List.set_cons_zero, List.set_cons_succ]
                      refine wpAnyH_take (i := 12) (v := .bool false) rfl (by kernel_rfl) (by kernel_rfl) (by kernel_rfl) (fun _ _ _ h => h) (Or.inl ⟨by kernel_rfl, fun w hSw => ?_⟩) hS4 ?_
                      · obtain ⟨e1, e2, e3, e4, e5, e6⟩ := hSw; go_simp
                      simp only [Act.put, List.getElem_toArray, List.getElem_cons_succ, List.getElem_cons_zero, List.setIfInBounds_toArray, List.set_cons_zero, List.set_cons_succ]
                      refine wpAnyH_take (i := 13) (v := .bool true) rfl (by kernel_rfl) (by kernel_rfl) (by kernel_rfl) (fun _ _ _ h => h) (Or.inl ⟨by kernel_rfl, fun w hSw => ?_⟩) hS4 ?_
                      · obtain ⟨e1, e2, e3, e4, e5, e6⟩ := hSw; go_simp
                      simp only [Act.put, List.getElem_toArray, List.getElem_cons_succ, List.getElem_cons_zero, List.setIfInBounds_toArray, List.set_cons_zero, List.set_cons_succ]
                      refine wpAnyH_take (i := 14) (v := .bool false) rfl (by kernel_rfl) (by kernel_rfl) (by kernel_rfl) (fun _ _ _ h => h) (Or.inl ⟨by kernel_rfl, fun w hSw => ?_⟩) hS4 ?_
                      · obtain ⟨e1, e2, e3, e4, e5, e6⟩ := hSw; go_simp
                      simp only [Act.put, List.getElem_toArray, List.getElem_cons_succ, List.getElem_cons_zero, List.setIfInBounds_toArray, List.set_cons_zero, List.set_cons_succ]
                      refine wpAnyH_take (i := 15) (v := .bool false) rfl (by kernel_rfl) (by kernel_rfl) (by kernel_rfl) (fun _ _ _ h => h) (Or.inl ⟨by kernel_rfl, fun w hSw => ?_⟩) hS4 ?_
                      · obtain ⟨e1, e2, e3, e4, e5, e6⟩ := hSw; go_simp
                      simp only [Act.put, List.getElem_toArray, List.getElem_cons_succ, List.getElem_cons_zero, List.setIfInBounds_toArray, List.set_cons_zero, List.set_cons_succ]
                      refine wpAnyH_take (i := 16) (v := .bool false) rfl (by kernel_rfl) (by kernel_rfl) (by kernel_rfl) (fun _ _ _ h => h) (Or.inl ⟨by kernel_rfl, fun w hSw => ?_⟩) hS4 ?_
                      · obtain ⟨e1, e2, e3, e4, e5, e6⟩ := hSw; go_simp
                      simp only [Act.put, List.getElem_toArray, List.getElem_cons_succ, List.getElem_cons_zero, List.setIfInBounds_toArray, List.set_cons_zero, List.set_cons_succ]
                      refine wpAnyH_take (i := 17) (v := .pointer (some ⟨s, 0, none⟩)) rfl (by kernel_rfl) (by kernel_rfl) (by kernel_rfl) (fun _ _ _ h => h) (Or.inl ⟨by kernel_rfl, fun w hSw => ?_⟩) hS4 ?_
                      · obtain ⟨e1, e2, e3, e4, e5, e6⟩ := hSw; go_simp
                      simp only [Act.put, List.getElem_toArray, List.getElem_cons_succ, List.getElem_cons_zero, List.setIfInBounds_toArray, List.set_cons_zero, List.set_cons_succ]
                      refine wpAnyH_take (i := 18) (v := .slice (some ⟨gb, ob, none⟩) nb cb) rfl (by kernel_rfl) (by kernel_rfl) (by kernel_rfl) (fun _ _ _ h => h) (Or.inl ⟨by kernel_rfl, fun w hSw => ?_⟩) hS4 ?_
                      · obtain ⟨e1, e2, e3, e4, e5, e6⟩ := hSw; go_simp
                      simp only [Act.put, List.getElem_toArray, List.getElem_cons_succ, List.getElem_cons_zero, List.setIfInBounds_toArray, List.set_cons_zero, List.set_cons_succ]
                      refine wpAnyH_take (i := 19) (v := .int .i64 (i5 : Int)) rfl (by kernel_rfl) (by kernel_rfl) (by kernel_rfl) (fun _ _ _ h => h) (Or.inl ⟨by kernel_rfl, fun w hSw => ?_⟩) hS4 ?_
                      · obtain ⟨e1, e2, e3, e4, e5, e6⟩ := hSw; go_simp
                      simp only [Act.put, List.getElem_toArray, List.getElem_cons_succ, List.getElem_cons_zero, List.setIfInBounds_toArray, List.set_cons_zero, List.set_cons_succ]
                      refine wpAnyH_take (i := 20) (v := .pointer (some ⟨gb, ob + i5 * 2, none⟩)) rfl (by kernel_rfl) (by kernel_rfl) (by kernel_rfl) (fun _ _ _ h => h) (Or.inl ⟨by kernel_rfl, fun w hSw => ?_⟩) hS4 ?_
                      · obtain ⟨e1, e2, e3, e4, e5, e6⟩ := hSw; go_simp
                      simp only [Act.put, List.getElem_toArray, List.getElem_cons_succ, List.getElem_cons_zero, List.setIfInBounds_toArray, List.set_cons_zero, List.set_cons_succ]
                      refine wpAnyH_take (i := 21) (v := .agg #[.int .i64 b1, .int .i64 b2]) rfl (by kernel_rfl) (by kernel_rfl) (by kernel_rfl) (fun _ _ _ h => h) (Or.inl ⟨by kernel_rfl, fun w hSw => ?_⟩) hS4 ?_
                      · obtain ⟨e1, e2, e3, e4, e5, e6⟩ := hSw; go_simp
                      simp only [Act.put, List.getElem_toArray, List.getElem_cons_succ, List.getElem_cons_zero, List.setIfInBounds_toArray, List.set_cons_zero, List.set_cons_succ]
                      refine wpAnyH_take (i := 23) (v := .pointer (some ⟨t, 0, none⟩)) rfl (by kernel_rfl) (by kernel_rfl) (by kernel_rfl) (fun _ _ _ h => h) (Or.inl ⟨by kernel_rfl, fun w hSw => ?_⟩) hS4 ?_
                      · obtain ⟨e1, e2, e3, e4, e5, e6⟩ := hSw; go_simp
                      simp only [Act.put, List.getElem_toArray, List.getElem_cons_succ, List.getElem_cons_zero, List.setIfInBounds_toArray, List.set_cons_zero, List.set_cons_succ]
                      refine wpAnyH_take (i := 24) (v := .slice (some ⟨gb, ob, none⟩) nb cb) rfl (by kernel_rfl) (by kernel_rfl) (by kernel_rfl) (fun _ _ _ h => h) (Or.inl ⟨by kernel_rfl, fun w hSw => ?_⟩) hS4 ?_
                      · obtain ⟨e1, e2, e3, e4, e5, e6⟩ := hSw; go_simp
                      simp only [Act.put, List.getElem_toArray, List.getElem_cons_succ, List.getElem_cons_zero, List.setIfInBounds_toArray, List.set_cons_zero, List.set_cons_succ]
                      refine wpAnyH_take (i := 25) (v := .int .i64 (i5 : Int)) rfl (by kernel_rfl) (by kernel_rfl) (by kernel_rfl) (fun _ _ _ h => h) (Or.inl ⟨by kernel_rfl, fun w hSw => ?_⟩) hS4 ?_
                      · obtain ⟨e1, e2, e3, e4, e5, e6⟩ := hSw; go_simp
                      simp only [Act.put, List.getElem_toArray, List.getElem_cons_succ, List.getElem_cons_zero, List.setIfInBounds_toArray, List.set_cons_zero, List.set_cons_succ]
                      refine wpAnyH_take (i := 26) (v := .pointer (some ⟨gb, ob + i5 * 2, none⟩)) rfl (by kernel_rfl) (by kernel_rfl) (by kernel_rfl) (fun _ _ _ h => h) (Or.inl ⟨by kernel_rfl, fun w hSw => ?_⟩) hS4 ?_
                      · obtain ⟨e1, e2, e3, e4, e5, e6⟩ := hSw; go_simp
                      simp only [Act.put, List.getElem_toArray, List.getElem_cons_succ, List.getElem_cons_zero, List.setIfInBounds_toArray, List.set_cons_zero, List.set_cons_succ]
                      refine wpAnyH_take (i := 27) (v := .agg #[.int .i64 b1, .int .i64 b2]) rfl (by kernel_rfl) (by kernel_rfl) (by kernel_rfl) (fun _ _ _ h => h) (Or.inl ⟨by kernel_rfl, fun w hSw => ?_⟩) hS4 ?_
                      · obtain ⟨e1, e2, e3, e4, e5, e6⟩ := hSw; go_simp
                      simp only [Act.put, List.getElem_toArray, List.getElem_cons_succ, List.getElem_cons_zero, List.setIfInBounds_toArray, List.set_cons_zero, List.set_cons_succ]
                      refine wpAnyH_ready (rs := [22]) (by kernel_rfl) (by simp) ?_
                      refine AllReadyH.cons rfl (fun K hK => ?_) AllReadyH.nil
                      go_simp
                      refine (HK1).mono ?_
                      rintro e V3 ⟨a1, n1, c1, rfl, S3⟩
                      have hS5 := HSK.out _ S3.out.2.2.1
                      refine hK.out _ _ hS5 (fun _ => ?_)
                      clear hK K
                      refine wpAnyH_ready (rs := [28]) (by kernel_rfl) (by simp) ?_
                      refine AllReadyH.cons rfl (fun K hK => ?_) AllReadyH.nil
                      go_simp
                      refine (HK2.out _ _ _ _ S3.out).mono ?_
                      rintro e V4 ⟨a2, n2, c2, rfl, S4k⟩
                      have hS6 := HSK.out _ S4k.out.2.2.2
                      refine hK.out _ _ hS6 (fun _ => ?_)
                      clear hK K
                      refine wpAnyH_ready (rs := [29]) (by kernel_rfl) (by simp) ?_
                      refine AllReadyH.cons rfl (fun K hK => ?_) AllReadyH.nil
                      go_simp
                      refine (HSm.out _ _ _ _ _ _ _ S4k.out).mono ?_
                      rintro e V5 ⟨rfl, S5⟩
                      have hS7 := HSK.out _ S5.out.2
                      refine hK.out _ _ hS7 (fun _ => ?_)
                      clear hK K
                      refine wpAnyH_take (i := 30) (v := .bool false) rfl (by kernel_rfl) (by kernel_rfl) (by kernel_rfl) (fun _ _ _ h => h) (Or.inl ⟨by kernel_rfl, fun w hSw => ?_⟩) hS7 ?_
                      · obtain ⟨e1, e2, e3, e4, e5, e6⟩ := hSw; go_simp
                      simp only [Act.put, List.getElem_toArray, List.getElem_cons_succ, List.getElem_cons_zero, List.setIfInBounds_toArray, List.set_cons_zero, List.set_cons_succ]
                      refine wpAnyH_take (i := 31) (v := .bool false) rfl (by kernel_rfl) (by kernel_rfl) (by kernel_rfl) (fun _ _ _ h => h) (Or.inl ⟨by kernel_rfl, fun w hSw => ?_⟩) hS7 ?_
                      · obtain ⟨e1, e2, e3, e4, e5, e6⟩ := hSw; go_simp
                      simp only [Act.put, List.getElem_toArray, List.getElem_cons_succ, List.getElem_cons_zero, List.setIfInBounds_toArray, List.set_cons_zero, List.set_cons_succ]
                      refine wpAnyH_done (by kernel_rfl) ?_ _
                      clear HK1 hS4 hS5 hS6 hS7
                      go_wp2
                      go_roundw
                      case rel => exact ⟨i5 + 1, by omega, by go_num, hid ⟨S5.out.1.mono (fun j hj => by rw [HPQ.out]; exact Or.inl (Or.inl hj)), HBk.out _ S5.out.2⟩⟩
                      case measure => simp [intOf]; omega
                    · have hb1 : decide ((i5 : Int) < (nb : Int)) = false := by simp; omega
                      have S9 : Hid (D2 wr s t l l P ∧ Below W5.heap.size W5 wr) := hid ⟨S5.out.1.mono (fun j hj => by rw [HPb.out]; exact Or.inl hj), H8B.out.trans (KP.bel (S5.out.2.mono (fun j hj => by rw [HPb.out, HP.out]; exact Or.inl hj)))⟩
                      clear S5
                      go_wp2_with fail
                      go_loopw [23] (fun i wr6 => ∃ k : Nat, k ≤ n ∧ i = .int .i64 k ∧ Hid (D2 wr6 s t l l P ∧ Below W5.heap.size W5 wr6)) (fun i _ => n - (intOf i).toNat)
                      case atStart => exact ⟨0, by omega, rfl, S9⟩
                      case round =>
                        clear S9
                        obtain ⟨k, hk, rfl, S6⟩ := hrel
                        by_cases hkn : k < n
                        · have hb1 : decide ((k : Int) < (n : Int)) = true := by simp [hkn]
                          obtain ⟨⟨⟨i1, i2⟩, tm, ⟨b1, b2⟩, ⟨p1, p2⟩, ky⟩, hm⟩ : ∃ m, L[k]? = some m := ⟨_, List.getElem?_eq_getElem (by rw [HLlen.out]; exact hkn)⟩
                          have hmf := (HFi.out _ (List.mem_of_getElem? hm)).id
                          obtain ⟨g, o, rfl, hg, hcl⟩ := HL5.out.look hm
                          obtain ⟨T3, hT3⟩ : ∃ T3, T3 = tookB l (i1, i2) := ⟨_, rfl⟩
                          have HSK : Hid (∀ V, Below W5.heap.size W5 V → (V.cell? ⟨g, o + k * 8, none⟩ = some (.int .i64 i1) ∧ V.cell? ⟨g, o + k * 8 + 1, none⟩ = some (.int .i64 i2))) := hid (fun V hV => ⟨(hcl V (hV.block g hg)).1, (hcl V (hV.block g hg)).2.1⟩)
                          have HT1 : Calls Try.prog 18 #[.pointer (some ⟨s, 0, none⟩), .agg #[.int .i64 i1, .int .i64 i2]] wr.drew fun e V => e = .returned (.bool T3) ∧ Hid (D2 V s t l l P ∧ Below W5.heap.size W5 V) := (took_d2 (i1, i2) S6.out.1.drew hmf).mono (fun e V g => ⟨by rw [g.1, hT3], hid ⟨g.2.1, S6.out.2.drew.trans (KP.bel (by rw [HP.out] at g; exact g.2.2))⟩⟩)
                          have HT2 : Hid (∀ V, (D2 V s t l l P ∧ Below W5.heap.size W5 V) → Calls Try.prog 18 #[.pointer (some ⟨t, 0, none⟩), .agg #[.int .i64 i1, .int .i64 i2]] V fun e V' => e = .returned (.bool T3) ∧ Hid (D2 V' s t l l P ∧ Below W5.heap.size W5 V')) := hid (fun V h => (took_d2 (i1, i2) h.1.symm hmf).mono (fun e V' g => ⟨by rw [g.1, hT3], hid ⟨g.2.1.symm, h.2.trans (KP.bel (by rw [HP.out] at g; exact g.2.2))⟩⟩))
                          have hS1 : wr.drew.cell? ⟨g, o + k * 8, none⟩ = some (.int .i64 i1) ∧ wr.drew.cell? ⟨g, o + k * 8 + 1, none⟩ = some (.int .i64 i2) := HSK.out wr.drew S6.out.2.drew
                          clear hm hmf hcl hg hT3
                          go_wp2_with fail
                          refine wp_region_held_drew (S := fun w' => w'.cell? ⟨g, o + k * 8, none⟩ = some (.int .i64 i1) ∧ w'.cell? ⟨g, o + k * 8 + 1, none⟩ = some (.int .i64 i2)) hmxo hS1 ?_
                          intro _
                          refine wpAnyH_take (i := 0) (v := .pointer (some ⟨s, 0, none⟩)) rfl (by kernel_rfl) (by kernel_rfl) (by kernel_rfl) (fun _ _ _ h => h) (Or.inl ⟨by kernel_rfl, fun w hSw => ?_⟩) hS1 ?_
                          · obtain ⟨e1, e2⟩ := hSw; go_simp
                          simp only [Act.put, List.getElem_toArray, List.getElem_cons_succ, List.getElem_cons_zero, List.setIfInBounds_toArray, List.set_cons_zero, List.set_cons_succ]
                          refine wpAnyH_take (i := 1) (v := .slice (some ⟨g, o, none⟩) n c) rfl (by kernel_rfl) (by kernel_rfl) (by kernel_rfl) (fun _ _ _ h => h) (Or.inl ⟨by kernel_rfl, fun w hSw => ?_⟩) hS1 ?_
                          · obtain ⟨e1, e2⟩ := hSw; go_simp
                          simp only [Act.put, List.getElem_toArray, List.getElem_cons_succ, List.getElem_cons_zero, List.setIfInBounds_toArray, List.set_cons_zero, List.set_cons_succ]
                          refine wpAnyH_take (i := 2) (v := .int .i64 (k : Int)) rfl (by kernel_rfl) (by kernel_rfl) (by kernel_rfl) (fun _ _ _ h => h) (Or.inl ⟨by kernel_rfl, fun w hSw => ?_⟩) hS1 ?_
                          · obtain ⟨e1, e2⟩ := hSw; go_simp
                          simp only [Act.put, List.getElem_toArray, List.getElem_cons_succ, List.getElem_cons_zero, List.setIfInBounds_toArray, List.set_cons_zero, List.set_cons_succ]
                          refine wpAnyH_take (i := 3) (v := .pointer (some ⟨g, o + k * 8, none⟩)) rfl (by kernel_rfl) (by kernel_rfl) (by kernel_rfl) (fun _ _ _ h => h) (Or.inl ⟨by kernel_rfl, fun w hSw => ?_⟩) hS1 ?_
                          · obtain ⟨e1, e2⟩ := hSw; go_simp
                          simp only [Act.put, List.getElem_toArray, List.getElem_cons_succ, List.getElem_cons_zero, List.setIfInBounds_toArray, List.set_cons_zero, List.set_cons_succ]
                          refine wpAnyH_take (i := 4) (v := .pointer (some ⟨g, o + k * 8, none⟩)) rfl (by kernel_rfl) (by kernel_rfl) (by kernel_rfl) (fun _ _ _ h => h) (Or.inl ⟨by kernel_rfl, fun w hSw => ?_⟩) hS1 ?_
                          · obtain ⟨e1, e2⟩ := hSw; go_simp
                          simp only [Act.put, List.getElem_toArray, List.getElem_cons_succ, List.getElem_cons_zero, List.setIfInBounds_toArray, List.set_cons_zero, List.set_cons_succ]
                          refine wpAnyH_take (i := 5) (v := .agg #[.int .i64 i1, .int .i64 i2]) rfl (by kernel_rfl) (by kernel_rfl) (by kernel_rfl) (fun _ _ _ h => h) (Or.inl ⟨by kernel_rfl, fun w hSw => ?_⟩) hS1 ?_
                          · obtain ⟨e1, e2⟩ := hSw; go_simp
                          simp only [Act.put, List.getElem_toArray, List.getElem_cons_succ, List.getElem_cons_zero, List.setIfInBounds_toArray, List.set_cons_zero, List.set_cons_succ]
                          refine wpAnyH_take (i := 7) (v := .pointer (some ⟨t, 0, none⟩)) rfl (by kernel_rfl) (by kernel_rfl) (by kernel_rfl) (fun _ _ _ h => h) (Or.inl ⟨by kernel_rfl, fun w hSw => ?_⟩) hS1 ?_
                          · obtain ⟨e1, e2⟩ := hSw; go_simp
                          simp only [Act.put, List.getElem_toArray, List.getElem_cons_succ, List.getElem_cons_zero, List.setIfInBounds_toArray, List.set_cons_zero, List.set_cons_succ]
                          refine wpAnyH_take (i := 8) (v := .slice (some ⟨g, o, none⟩) n c) rfl (by kernel_rfl) (by kernel_rfl) (by kernel_rfl) (fun _ _ _ h => h) (Or.inl ⟨by kernel_rfl, fun w hSw => ?_⟩) hS1 ?_
                          · obtain ⟨e1, e2⟩ := hSw; go_simp
                          simp only [Act.put, List.getElem_toArray, List.getElem_cons_succ, List.getElem_cons_zero, List.setIfInBounds_toArray, List.set_cons_zero, List.set_cons_succ]
                          refine wpAnyH_take (i := 9) (v := .int .i64 (k : Int)) rfl (by kernel_rfl) (by kernel_rfl) (by kernel_rfl) (fun _ _ _ h => h) (Or.inl ⟨by kernel_rfl, fun w hSw => ?_⟩) hS1 ?_
                          · obtain ⟨e1, e2⟩ := hSw; go_simp
                          simp only [Act.put, List.getElem_toArray, List.getElem_cons_succ, List.getElem_cons_zero, List.setIfInBounds_toArray, List.set_cons_zero, List.set_cons_succ]
                          refine wpAnyH_take (i := 10) (v := .pointer (some ⟨g, o + k * 8, none⟩)) rfl (by kernel_rfl) (by kernel_rfl) (by kernel_rfl) (fun _ _ _ h => h) (Or.inl ⟨by kernel_rfl, fun w hSw => ?_⟩) hS1 ?_
                          · obtain ⟨e1, e2⟩ := hSw; go_simp
                          simp only [Act.put, List.getElem_toArray, List.getElem_cons_succ, List.getElem_cons_zero, List.setIfInBounds_toArray, List.set_cons_zero, List.set_cons_succ]
                          refine wpAnyH_take (i := 11) (v := .pointer (some ⟨g, o + k * 8, none⟩)) rfl (by kernel_rfl) (by kernel_rfl) (by kernel_rfl) (fun _ _ _ h => h) (Or.inl ⟨by kernel_rfl, fun w hSw => ?_⟩) hS1 ?_
                          · obtain ⟨e1, e2⟩ := hSw; go_simp
                          simp only [Act.put, List.getElem_toArray, List.getElem_cons_succ, List.getElem_cons_zero, List.setIfInBounds_toArray, List.set_cons_zero, List.set_cons_succ]
                          refine wpAnyH_take (i := 12) (v := .agg #[.int .i64 i1, .int .i64 i2]) rfl (by kernel_rfl) (by kernel_rfl) (by kernel_rfl) (fun _ _ _ h => h) (Or.inl ⟨by kernel_rfl, fun w hSw => ?_⟩) hS1 ?_
                          · obtain ⟨e1, e2⟩ := hSw; go_simp
                          simp only [Act.put, List.getElem_toArray, List.getElem_cons_succ, List.getElem_cons_zero, List.setIfInBounds_toArray, List.set_cons_zero, List.set_cons_succ]
                          refine wpAnyH_ready (rs := [6]) (by kernel_rfl) (by simp) ?_
                          refine AllReadyH.cons rfl (fun K hK => ?_) AllReadyH.nil
                          go_simp
                          refine (HT1).mono ?_
                          rintro e V1 ⟨rfl, S7⟩
                          have hS2 := HSK.out _ S7.out.2
                          refine hK.out _ _ hS2 (fun _ => ?_)
                          clear hK K
                          refine wpAnyH_ready (rs := [13]) (by kernel_rfl) (by simp) ?_
                          refine AllReadyH.cons rfl (fun K hK => ?_) AllReadyH.nil
                          go_simp
                          refine (HT2.out _ S7.out).mono ?_
                          rintro e V2 ⟨rfl, S8⟩
                          have hS3 := HSK.out _ S8.out.2
                          refine hK.out _ _ hS3 (fun _ => ?_)
                          clear hK K
                          refine wpAnyH_take (i := 14) (v := .bool false) rfl (by kernel_rfl) (by kernel_rfl) (by kernel_rfl) (fun _ _ _ h => h) (Or.inl ⟨by kernel_rfl, fun w hSw => ?_⟩) hS3 ?_
                          · obtain ⟨e1, e2⟩ := hSw; go_simp
                          simp only [Act.put, List.getElem_toArray, List.getElem_cons_succ, List.getElem_cons_zero, List.setIfInBounds_toArray, List.set_cons_zero, List.set_cons_succ]
                          refine wpAnyH_done (by kernel_rfl) ?_ _
                          clear HT1 hS1 hS2 hS3
                          go_wp2
                          go_roundw
                          case rel => exact ⟨k + 1, by omega, by go_num, S8⟩
                          case measure => simp [intOf]; omega
                        · have hb1 : decide ((k : Int) < (n : Int)) = false := by simp; omega
                          obtain ⟨K, hK⟩ : ∃ K, K = kidB (run l) (0, -1) := ⟨_, rfl⟩
                          have HR1 : Calls Try.prog 19 #[] wr fun e V => e = .returned (.agg #[.int .i64 0, .int .i64 (-1)]) ∧ Hid (D2 V s t l l P ∧ Below W5.heap.size W5 V) := (root_any wr).mono (fun e V h => ⟨h.1, hid ⟨S6.out.1.below h.2.below, S6.out.2.trans (h.2.below.mono S6.out.2.size)⟩⟩)
                          have HK1 : Hid (∀ V, (D2 V s t l l P ∧ Below W5.heap.size W5 V) → Calls Try.prog 17 #[.pointer (some ⟨s, 0, none⟩), .agg #[.int .i64 0, .int .i64 (-1)]] V fun e V' => ∃ a1 n1 c1, e = .returned (.slice a1 n1 c1) ∧ Hid (PS V' a1 n1 c1 K ∧ D2 V' s t l l (fun j => P j ∨ ∃ ad, a1 = some ad ∧ ad.block = j) ∧ Below W5.heap.size W5 V')) := hid (fun V h => (kids_d2 (0, -1) h.1 ⟨rfl, rfl⟩).mono (fun e V' g => by
                            obtain ⟨a', c', g1, g2, g3, g4⟩ := g
                            rw [← hK] at g1 g2
                            exact ⟨a', _, c', g1, hid ⟨g2, g3, h.2.trans (KP.bel (by rw [HP.out] at g4; exact g4))⟩⟩))
                          have HR2 : Hid (∀ V a1 n1 c1, (PS V a1 n1 c1 K ∧ D2 V s t l l (fun j => P j ∨ ∃ ad, a1 = some ad ∧ ad.block = j) ∧ Below W5.heap.size W5 V) → Calls Try.prog 19 #[] V fun e V' => e = .returned (.agg #[.int .i64 0, .int .i64 (-1)]) ∧ Hid (PS V' a1 n1 c1 K ∧ D2 V' s t l l (fun j => P j ∨ ∃ ad, a1 = some ad ∧ ad.block = j) ∧ Below W5.heap.size W5 V')) := hid (fun V a1 n1 c1 h => (root_any V).mono (fun e V' g => ⟨g.1, hid ⟨h.1.same (fun ad e => g.2.below.block _ (h.2.1.lt _ (Or.inr ⟨ad, e, rfl⟩))), h.2.1.below g.2.below, h.2.2.trans (g.2.below.mono h.2.2.size)⟩⟩))
                          have HK2 : Hid (∀ V a1 n1 c1, (PS V a1 n1 c1 K ∧ D2 V s t l l (fun j => P j ∨ ∃ ad, a1 = some ad ∧ ad.block = j) ∧ Below W5.heap.size W5 V) → Calls Try.prog 17 #[.pointer (some ⟨t, 0, none⟩), .agg #[.int .i64 0, .int .i64 (-1)]] V fun e V' => ∃ a2 n2 c2, e = .returned (.slice a2 n2 c2) ∧ Hid (PS V' a1 n1 c1 K ∧ PS V' a2 n2 c2 K ∧ Below W5.heap.size W5 V')) := hid (fun V a1 n1 c1 h => (kids_d2 (0, -1) h.2.1.symm ⟨rfl, rfl⟩).mono (fun e V' g => by
                            obtain ⟨a', c', g1, g2, g3, g4⟩ := g
                            rw [← hK] at g1 g2
                            exact ⟨a', _, c', g1, hid ⟨h.1.same (fun ad e => g4.keep _ (Or.inr ⟨ad, e, rfl⟩)), g2, h.2.2.trans (KP.bel (g4.mono (fun j hj => by rw [HP.out]; exact Or.inl hj)))⟩⟩))
                          have HSm : Hid (∀ V a1 n1 c1 a2 n2 c2, (PS V a1 n1 c1 K ∧ PS V a2 n2 c2 K ∧ Below W5.heap.size W5 V) → Calls Try.prog 15 #[.slice a1 n1 c1, .slice a2 n2 c2] V fun e V' => e = .returned (.bool true) ∧ Hid (Below W5.heap.size W5 V')) := hid (fun V a1 n1 c1 a2 n2 c2 h => (fsame_any h.1 (ps_small h.1) h.2.1 (ps_small h.2.1)).mono (fun e V' g => ⟨by rw [g.1, decide_eq_true (rfl : K = K)], hid (h.2.2.trans (g.2.mono h.2.2.size))⟩))
                          clear hK
                          go_wp2_with (first
                            | (go_at_call 15; refine (HSm.out _ _ _ _ _ _ _ S10.out).mono ?_; rintro e V5 ⟨rfl, S11⟩)
                            | (go_at_call 17; have hq := S9; refine (HK2.out _ _ _ _ S9.out).mono ?_; rintro e V4 ⟨a2, n2, c2, rfl, S10⟩)
                            | (go_at_call 19; have hq := S8; refine (HR2.out _ _ _ _ S8.out).mono ?_; rintro e V3 ⟨rfl, S9⟩)
                            | (go_at_call 17; refine (HK1.out _ S7.out).mono ?_; rintro e V2 ⟨a1, n1, c1, rfl, S8⟩)
                            | (go_at_call 19; refine HR1.mono ?_; rintro e V1 ⟨rfl, S7⟩))
                          go_ret
                          exact ⟨rfl, HB5.out.trans (S11.out.mono HB5.out.size)⟩
end Go.Proofs.Ytplcohjpchfkkaa
