/- The tree's calls, in the form in which the statements use them: P: blocks that are none of the tree's. -/
import Derived.Test.YtnmdcdphpcpojaaGreatDoorOlRow
import Derived.Test.YtnmdcdphpcpojaaGreatDoorOlLine
import Derived.BigQuiet
import Derived.Laws.Small
import Derived.Maps.AppendAt
import Derived.Test.YtnmdcdphpcpojaaGreatDoorTrMath
import Derived.WalkKit
import Derived.Below
import Derived.Maps.OwnSet
import Derived.Maps.RangeWalk
import Derived.Sort.KeysCollected
import Derived.Test.YtnmdcdphpcpojaaGreatDoorTrDoM
import Derived.Sort.MapsRangeIn
import Derived.Laws.IdiomRangeMap
import Derived.WalkSpells
import Derived.WalkLawsBesides
import Derived.Sort.OwnSorted
import Derived.Shelf.SlSortCmp.WholeK
import Derived.Test.YtnmdcdphpcpojaaGreatDoorProg
namespace Go.Proofs.YtnmdcdphpcpojaaGreatDoor
section
set_option linter.unusedVariables false
open Go.Shelf Go.RowKit

/-- A line that is read. -/
def toLn (x : Nat × List UInt8) : Ln := ⟨(0, 0), x.1, x.2⟩

/-- What Read tells: the lines, the error. -/
def rdR (l : List UInt8) : Option (List (Nat × List UInt8)) := rdL (l.length + 1) 0 l
def rdE (l : List UInt8) : Int := if (rdR l).isSome = true then 0 else 11
def rdM (l : List UInt8) : List Ln := ((rdR l).getD []).map toLn

theorem rd_nil (f deep : Nat) : rdL (f + 1) deep [] = some [] := by simp [rdL]
theorem rd_no {f deep : Nat} {q : List UInt8} (h : q ≠ []) (hn : (10 : UInt8) ∉ q) : rdL (f + 1) deep q = none := by
  unfold rdL
  rw [if_neg h, cut_no hn]
  simp
theorem rd_bad {f deep : Nat} {p r : List UInt8} (hp : (10 : UInt8) ∉ p) (hr : rline p = none) : rdL (f + 1) deep (p ++ 10 :: r) = none := by
  unfold rdL
  rw [if_neg (by simp), cut_mid hp]
  simp [hr]
theorem rd_deep {f deep : Nat} {p r : List UInt8} (hp : (10 : UInt8) ∉ p) {x : Nat × List UInt8} (hr : rline p = some x) (hd : deep < x.1) : rdL (f + 1) deep (p ++ 10 :: r) = none := by
  unfold rdL
  rw [if_neg (by simp), cut_mid hp]
  simp [hr, hd]
theorem rd_step {f deep : Nat} {p r : List UInt8} (hp : (10 : UInt8) ∉ p) {x : Nat × List UInt8} (hr : rline p = some x) (hd : x.1 ≤ deep) : rdL (f + 1) deep (p ++ 10 :: r) = (rdL f (x.1 + 1) r).map (x :: ·) := by
  conv => lhs; unfold rdL
  rw [if_neg (by simp), cut_mid hp]
  simp only [if_true, hr]
  rw [if_neg (by omega)]

theorem LnS.new (W : World) (x : Ln) : LnS (W.alloc (.cells x.cells.toArray 54)) (some ⟨W.heap.size, 0, none⟩) 1 1 [x] :=
  ⟨rfl, Nat.le_refl _, by decide, (fun e => nomatch e), fun _ => ⟨W.heap.size, 0, rfl, by simp, fun i hi j u hj => by
    have h : i = 0 := by simpa using hi
    subst h
    have hb := World.alloc_heap_new W (.cells x.cells.toArray 54)
    rw [Lib.cell_of_heap hb]
    simpa using hj⟩⟩

theorem lns_below {w w' : World} {B n : Nat} {v : Value} {xs : List Value} (h : w.ownsRow B 54 4 v n xs) (hb : Below w.heap.size w w') : w'.ownsRow B 54 4 v n xs := by
  refine h.kept (row := Option.none) ⟨hb.os, hb.tape, hb.output, hb.size, fun k hk _ => hb.block k hk⟩ ?_
  cases v.ownBlock with
  | none => exact Or.inl rfl
  | some g => exact Or.inr (fun e => nomatch e)

theorem lns_own {w : World} {B n : Nat} {v : Value} {xs : List Value} (h : w.ownsRow B 54 4 v n xs) {k : Nat} (hk : v.ownBlock = some k) : B ≤ k ∧ k < w.heap.size ∧ ∃ cs, w.heap[k]? = some (.cells cs 54 (0, 0)) := by
  rcases h.2 with ⟨rfl, _⟩ | ⟨g, cap, cur, rfl, hb, hgb, _⟩
  · simp [Value.ownBlock] at hk
  · obtain rfl : g = k := by simpa [Value.ownBlock] using hk
    exact ⟨hb, (Array.getElem?_eq_some_iff.1 hgb).1, cur, hgb⟩

theorem olbel_grown {n : Nat} {a b c : World} {r : Option Nat} (h : Below n a b) (g : b.grownBy c r) (hn : n ≤ b.heap.size) (hr : ∀ k, r = some k → n ≤ k) : Below n a c :=
  ⟨g.os.trans h.os, g.tape.trans h.tape, g.output.trans h.output, Nat.le_trans h.size g.size, fun k hk => (g.block k (by omega) (fun e => by have := hr k e.symm; omega)).trans (h.block k hk)⟩

theorem rline_le {p : List UInt8} {x : Nat × List UInt8} (h : rline p = some x) : x.1 ≤ p.length := by
  unfold rline at h
  split at h
  · obtain ⟨t, _, rfl⟩ := Option.map_eq_some_iff.1 h
    show (p.length - _) / 2 ≤ _
    omega
  · cases h

set_option maxRecDepth 100000 in
set_option maxHeartbeats 2000000 in
theorem read_any (l : List UInt8) (m : Int) (w : World) (hs : l.length < 1000000) (hm : w.cell? ⟨0, 0, none⟩ = some (.int .i64 m)) (h0 : 0 < w.heap.size) :
    Calls Tryz.prog 20 #[.string (sB l)] w fun e w' => ∃ v, e = .returned (.tuple #[v, .int .i64 (rdE l)]) ∧ w'.ownsRow w.heap.size 54 4 v (rdM l).length (flLn (rdM l)) ∧ Below w.heap.size w w' := by
  go_enter Tryz.func20, Tryz.ntmps20
  go_wp2
  go_loopw [0, 4, 5] (fun s o d wr => ∃ (q : List UInt8) (L : List (Nat × List UInt8)) (deep f : Nat), s = .string (sB q) ∧ d = .int .i64 deep ∧ q.length < f ∧ deep ≤ 1000001 ∧ L.length + q.length ≤ l.length ∧ Hid (rdR l = (rdL f deep q).map (L ++ ·)) ∧ Hid (wr.ownsRow w.heap.size 54 4 o L.length (flLn (L.map toLn))) ∧ Below w.heap.size w wr) (fun s _ _ _ => szV s)
  case atStart => exact ⟨l, [], 0, l.length + 1, rfl, rfl, by omega, by omega, by simp, hid (by unfold rdR; simp), hid (World.ownsRow_nil _ _ _ _), Below.refl _ _⟩
  case round =>
    obtain ⟨q, L, deep, f, rfl, rfl, hf, hdp, hlen, HR, HO, hB⟩ := hrel
    obtain ⟨f, rfl⟩ : ∃ f', f = f' + 1 := ⟨f - 1, by omega⟩
    have hmr : wr.cell? ⟨0, 0, none⟩ = some (.int .i64 m) := by rw [hB.cell (by simpa using h0)]; exact hm
    by_cases hq : q = []
    · subst hq
      have HF : Hid (rdR l = some L) := hid (by rw [HR.out, rd_nil]; simp)
      go_wp2
      go_ret2
      have e1 : rdM l = L.map toLn := by unfold rdM; rw [HF.out]; rfl
      have e2 : rdE l = 0 := by unfold rdE; rw [HF.out]; rfl
      refine ⟨u4, ?_, ?_, hB⟩
      · rw [e2]; rfl
      · rw [e1, List.length_map]; exact HO.out
    · have hC := cut_any q 10 m wr (by omega) hmr
      have hqe : q.isEmpty = false := by
        cases q with
        | nil => exact absurd rfl hq
        | cons b q => rfl
      have HQ := hid hq
      clear hq
      obtain ⟨fd, hfd⟩ : ∃ fd, fd = (Lib.cut q [10]).2.2 := ⟨_, rfl⟩
      obtain ⟨ps, hps⟩ : ∃ ps, ps = (Lib.cut q [10]).1 := ⟨_, rfl⟩
      obtain ⟨rs, hrs⟩ : ∃ rs, rs = (Lib.cut q [10]).2.1 := ⟨_, rfl⟩
      rw [← hfd, ← hps, ← hrs] at hC
      have hpl : ps.length + rs.length ≤ q.length ∧ (fd = true → ps.length + rs.length < q.length) := by
        rcases cut_cases 10 q with hn | ⟨p, r, rfl, hp⟩
        · rw [cut_no hn] at hps hrs hfd; rw [hps, hrs, hfd]; simp
        · rw [cut_mid hp] at hps hrs hfd; rw [hps, hrs]; simp only [List.length_append, List.length_cons]; exact ⟨by omega, fun _ => by omega⟩
      have HRD : Hid ((fd = false ∨ rline ps = none → rdR l = none) ∧ (∀ x, fd = true → rline ps = some x → (deep < x.1 → rdR l = none) ∧ (x.1 ≤ deep → rdR l = (rdL f (x.1 + 1) rs).map ((L ++ [x]) ++ ·)))) := hid (by
        rcases cut_cases 10 q with hn | ⟨p, r, rfl, hp⟩
        · rw [cut_no hn] at hps hrs hfd
          refine ⟨fun _ => by rw [HR.out, rd_no HQ.out hn]; rfl, fun x h => by rw [hfd] at h; cases h⟩
        · rw [cut_mid hp] at hps hrs hfd
          subst hps
          subst hrs
          refine ⟨fun h => ?_, fun x _ hx => ⟨fun h => by rw [HR.out, rd_deep hp hx h]; rfl, fun h => ?_⟩⟩
          · rcases h with h | h
            · rw [hfd] at h; cases h
            · rw [HR.out, rd_bad hp h]; rfl
          · rw [HR.out, rd_step hp hx h, Option.map_map]
            congr 1
            funext z
            simp)
      obtain ⟨hpl1, hpl2⟩ := hpl
      have HPL := hid hpl2
      clear hfd hps hrs hpl2
      obtain ⟨ok, hok⟩ : ∃ ok, ok = (rline ps).isSome := ⟨_, rfl⟩
      obtain ⟨xd, hxd⟩ : ∃ xd, xd = ((rline ps).getD (0, [])).1 := ⟨_, rfl⟩
      obtain ⟨xt, hxt⟩ : ∃ xt, xt = ((rline ps).getD (0, [])).2 := ⟨_, rfl⟩
      have HX : Hid (ok = true → rline ps = some (xd, xt)) := hid (fun h => by
        rw [hok] at h
        obtain ⟨x, hx⟩ := Option.isSome_iff_exists.1 h
        rw [hx] at hxd hxt
        rw [hx, hxd, hxt]
        rfl)
      have HXN : Hid (ok = false → rline ps = none) := hid (fun h => by
        rw [hok] at h
        cases e : rline ps with
        | none => rfl
        | some x => rw [e] at h; cases h)
      have hxl : xd ≤ 1000000 := by
        rw [hxd]
        cases e : rline ps with
        | none => simp
        | some x => have := rline_le e; show x.1 ≤ _; omega
      have HRL : ∀ W, W.cell? ⟨0, 0, none⟩ = some (.int .i64 m) → 0 < W.heap.size → Calls Tryz.prog 51 #[.string (sB ps)] W fun e w' => e = .returned (.tuple #[.agg #[.int .i64 0, .int .i64 0, .int .i64 xd, .string (sB xt)], .bool ok]) ∧ Below W.heap.size W w' := fun W h1 h2 => by
        have := readLine_any ps m W (by omega) h1 h2
        rw [hok, hxd, hxt]
        exact this
      clear hok hxd hxt
      have hz0 : 0 < wr.heap.size := by have := hB.size; omega
      have hmq : ∀ k, (wr.drewN k).cell? ⟨0, 0, none⟩ = some (.int .i64 m) := fun _ => hmr
      have hzq : ∀ k, 0 < (wr.drewN k).heap.size := fun _ => hz0
      have hBq : ∀ k, Below w.heap.size w (wr.drewN k) := fun k => hB.trans (((Far.refl wr).drewN k).below.mono hB.size)
      have HOq : ∀ k, Hid ((wr.drewN k).ownsRow w.heap.size 54 4 u4 L.length (flLn (L.map toLn))) := fun _ => HO
      go_upto_region 6 with (first
        | (go_at_call 50; refine hC.mono ?_; rintro e w1 ⟨rfl, nn, rfl⟩)
        | (go_at_call 51; refine (HRL (wr.drewN nn) (hmq nn) (hzq nn)).mono ?_; rintro e w2 ⟨rfl, hB2⟩))
      obtain ⟨W3, hW3⟩ : ∃ W3, W3 = w2.alloc (.cells #[.int .i64 0, .int .i64 0, .int .i64 xd, .string (sB xt)] 54) := ⟨_, rfl⟩
      have hB3 : Below w.heap.size w W3 := by
        have h2 := (hBq nn).trans (hB2.mono (hBq nn).size)
        rw [hW3]
        exact h2.alloc h2.size _
      have hB23 : Below (wr.drewN nn).heap.size (wr.drewN nn) W3 := by rw [hW3]; exact hB2.alloc hB2.size _
      obtain ⟨qb, hqb⟩ : ∃ qb, qb = w2.heap.size := ⟨_, rfl⟩
      have hbq : W3.heap[qb]? = some (.cells #[.int .i64 0, .int .i64 0, .int .i64 xd, .string (sB xt)] 54 (0, 0)) := by rw [hW3, hqb]; exact World.alloc_heap_new w2 _
      have hqge : (wr.drewN nn).heap.size ≤ qb := by rw [hqb]; exact hB2.size
      have HO3 := hid (lns_below (HOq nn).out hB23)
      rw [← hW3, ← hqb]
      have HB3 := hid hB3
      have HQG := hid hqge
      have HONN := HOq nn
      have HW3s : Hid (w.heap.size ≤ W3.heap.size) := hid hB3.size
      clear hW3 hqb hB23 hB3 hqge hB2 HOq hBq hzq hmq
      obtain ⟨fz, k0, k1, k2, k3⟩ : W3.frozen? ⟨qb, 0, none⟩ = false ∧ W3.cell? ⟨qb, 0, none⟩ = some (.int .i64 0) ∧ W3.cell? ⟨qb, 1, none⟩ = some (.int .i64 0) ∧ W3.cell? ⟨qb, 2, none⟩ = some (.int .i64 xd) ∧ W3.cell? ⟨qb, 3, none⟩ = some (.string (sB xt)) := by
        refine ⟨Lib.frozen_of_heap hbq 0, ?_, ?_, ?_, ?_⟩ <;> (rw [Lib.cell_of_heap hbq]; rfl)
      have HBQ := hid hbq
      clear hbq
      have hbad : Hid (rdR l = none → rdM l = [] ∧ rdE l = 11) := hid (fun h => by unfold rdM rdE; rw [h]; exact ⟨rfl, rfl⟩)
      cases fd with
      | false =>
        obtain ⟨m1, m2⟩ := hbad.out (HRD.out.1 (Or.inl rfl))
        have M1 := hid m1
        have M2 := hid m2
        clear m1 m2
        go_wp2
        go_ret2
        refine ⟨.slice Option.none 0 0, by rw [M2.out]; rfl, by rw [M1.out]; exact World.ownsRow_nil _ _ _ _, HB3.out⟩
      | true =>
        cases ok with
        | false =>
          obtain ⟨m1, m2⟩ := hbad.out (HRD.out.1 (Or.inr (HXN.out rfl)))
          have M1 := hid m1
          have M2 := hid m2
          clear m1 m2
          go_wp2
          go_ret2
          refine ⟨.slice Option.none 0 0, by rw [M2.out]; rfl, by rw [M1.out]; exact World.ownsRow_nil _ _ _ _, HB3.out⟩
        | true =>
          by_cases hgt : deep < xd
          · have hd1 : decide ((deep : Int) < (xd : Int)) = true := by simp [hgt]
            obtain ⟨m1, m2⟩ := hbad.out ((HRD.out.2 (xd, xt) rfl (HX.out rfl)).1 hgt)
            have M1 := hid m1
            have M2 := hid m2
            clear m1 m2
            go_wp2
            go_ret2
            refine ⟨.slice Option.none 0 0, by rw [M2.out]; rfl, by rw [M1.out]; exact World.ownsRow_nil _ _ _ _, HB3.out⟩
          · have hd1 : decide ((deep : Int) < (xd : Int)) = false := by simp; omega
            have HST := hid ((HRD.out.2 (xd, xt) rfl (HX.out rfl)).2 (by omega))
            have hLl : L.length ≤ 1000000 := by omega
            have HNW := hid (LnS.new W3 (toLn (xd, xt)))
            have HOW := hid (lns_below HO3.out ((Below.refl W3.heap.size W3).alloc (Nat.le_refl _) (.cells (toLn (xd, xt)).cells.toArray 54)))
            have HBW := hid (HB3.out.alloc HW3s.out (.cells (toLn (xd, xt)).cells.toArray 54))
            have hNE : Hid (∀ k, u4.ownBlock = some k → w.heap.size ≤ k ∧ k ≠ qb) := hid (fun k hk => by
              obtain ⟨e1, e2, _⟩ := lns_own HONN.out hk
              have := HQG.out
              exact ⟨e1, by omega⟩)
            have hql : Hid (qb < (W3.alloc (.cells (toLn (xd, xt)).cells.toArray 54)).heap.size) := hid (by have := (Array.getElem?_eq_some_iff.1 HBQ.out).1; rw [World.size_alloc]; omega)
            go_upto_region 9 with (at_builtin; refine wpList_append_lns rfl _ _ 43 Tryz.underlying43 rfl w.heap.size u4 L.length (L.map toLn) rfl HOW.out (some ⟨W3.heap.size, 0, Option.none⟩) 1 1 [toLn (xd, xt)] rfl HNW.out (by omega) (by rw [World.size_alloc]; have := HW3s.out; omega) ?_; rintro v5 W5 ho5 hg5)
            have hq5 : W5.heap[qb]? = some (.cells #[.int .i64 0, .int .i64 0, .int .i64 xd, .string (sB xt)] 54 (0, 0)) := (hg5.block qb hql.out (fun e => (hNE.out qb e.symm).2 rfl)).trans ((Below.heap_alloc _ _ _ (by have := (Array.getElem?_eq_some_iff.1 HBQ.out).1; exact this)).trans HBQ.out)
            have g2 : W5.cell? ⟨qb, 2, none⟩ = some (.int .i64 xd) := by rw [Lib.cell_of_heap hq5]; rfl
            have HB5 := hid (olbel_grown HBW.out hg5 (by rw [World.size_alloc]; have := HW3s.out; omega) (fun k hk => (hNE.out k hk).1))
            have HO5 := hid ho5
            clear hq5 ho5 hg5
            go_quiet (fail)
            have HF : Hid (Below w.heap.size w (W5.drewN nq)) := hid (HB5.out.trans (((Far.refl W5).drewN nq).below.mono HB5.out.size))
            go_wp2
            go_roundw
            case rel =>
              refine ⟨rs, L ++ [(xd, xt)], xd + 1, f, rfl, by go_num, ?_, by omega, ?_, HST, hid ?_, HF.out⟩
              · have := HPL.out rfl; omega
              · have := HPL.out rfl; simp; omega
              · rw [List.map_append, List.length_append]; exact HO5.out
            case measure => show (sB rs).size < (sB q).size; rw [sB_size, sB_size]; have := HPL.out rfl; omega
end

section
set_option linter.unusedVariables false
open Go.Shelf Go.RowKit

/-- A line as it is shown. -/
def Ln.sh (x : Ln) : List UInt8 := lnB x.d.toNat x.t ++ [10]

def showL (L : List Ln) : List UInt8 := L.flatMap Ln.sh

theorem showL_snoc (L : List Ln) (x : Ln) : showL (L ++ [x]) = showL L ++ x.sh := by simp [showL]

theorem sh_len (x : Ln) (hd : x.d ≤ 100000) (ht : x.t.length ≤ 100000) : x.sh.length ≤ 400003 := by
  have := esc_len x.t
  unfold Ln.sh lnB
  simp
  omega

theorem showL_len : ∀ L : List Ln, (∀ x ∈ L, x.d ≤ 100000 ∧ x.t.length ≤ 100000) → (showL L).length ≤ 400003 * L.length
  | [], _ => by simp [showL]
  | x :: L, h => by
    have h1 := sh_len x (h x (by simp)).1 (h x (by simp)).2
    have h2 := showL_len L (fun y hy => h y (by simp [hy]))
    have e : showL (x :: L) = x.sh ++ showL L := by simp [showL]
    rw [e, List.length_append, List.length_cons]
    omega

theorem LnS.below {w w' : World} {a : Option Addr} {n c : Nat} {L : List Ln} (h : LnS w a n c L) (hB : Below w.heap.size w w') : LnS w' a n c L :=
  ⟨h.len, h.cap, h.max, h.nil, fun hp => by
    obtain ⟨g, o, e, hg, hx⟩ := h.at_ hp
    exact ⟨g, o, e, Nat.lt_of_lt_of_le hg hB.size, fun i hi j u hj => by rw [hB.cell (by exact hg)]; exact hx i hi j u hj⟩⟩

theorem bld_below {w w' : World} {B b : Nat} {bs : List Value} (h : Bld B b bs w) (hb : Below w.heap.size w w') : Bld B b bs w' := by
  have one : ∀ p, Lib.BuilderAtF 93 5 B b p bs w → Lib.BuilderAtF 93 5 B b p bs w' := fun p ⟨h1, v, h2, h3, h4⟩ => by
    refine ⟨h1, v, (hb.block b (Array.getElem?_eq_some_iff.1 h2).1).trans h2, h3.kept (row := none) ⟨hb.os, hb.tape, hb.output, hb.size, fun k hk _ => hb.block k hk⟩ ?_, h4⟩
    cases v.ownBlock with
    | none => exact Or.inl rfl
    | some g => exact Or.inr (fun e => by cases e)
  rcases h with h | h
  · exact Or.inl (one _ h)
  · exact Or.inr (one _ h)

theorem rep_two : ∀ n, Lib.repeatL [32, 32] n = List.replicate (2 * n) (32 : UInt8)
  | 0 => rfl
  | n + 1 => by
    have := rep_two n
    rw [show 2 * (n + 1) = 2 * n + 1 + 1 by omega, List.replicate_succ, List.replicate_succ, ← this]
    rfl
end

section
set_option linter.unusedVariables false
open Go.RowKit Go.Shelf

/-- Lines as ints and texts are. -/
structure Ln.Fits (x : Ln) : Prop where
  b : Dw x.b
  d : -9223372036854775808 ≤ x.d ∧ x.d ≤ 9223372036854775807
  t : x.t.length ≤ 9223372036854775807

def shB (L : List Ln) : Bool := L.all (fun x => decide (x.t.length ≤ 1000) && decide (x.d ≤ 1000)) && decide (L.length ≤ 100)

theorem shB_yes {L : List Ln} (h : shB L = true) : (∀ x ∈ L, x.t.length ≤ 1000 ∧ x.d ≤ 1000) ∧ L.length ≤ 100 := by
  unfold shB at h
  rw [Bool.and_eq_true, List.all_eq_true, decide_eq_true_eq] at h
  refine ⟨fun x hx => ?_, h.2⟩
  have := h.1 x hx
  rw [Bool.and_eq_true, decide_eq_true_eq, decide_eq_true_eq] at this
  exact this

theorem shB_bad {L : List Ln} {k : Nat} {x : Ln} (h : L[k]? = some x) (hx : ¬ (x.t.length ≤ 1000 ∧ x.d ≤ 1000)) : shB L = false := by
  cases e : shB L with
  | false => rfl
  | true => exact absurd ((shB_yes e).1 x (List.mem_of_getElem? h)) hx

theorem LnS.look {w : World} {a : Option Addr} {n c : Nat} {L : List Ln} (h : LnS w a n c L) {k : Nat} (hk : k < n) : ∃ g o x, a = some ⟨g, o, none⟩ ∧ L[k]? = some x ∧ g < w.heap.size ∧ w.cell? ⟨g, o + k * 4, none⟩ = some (.int .i64 x.b.1) ∧ w.cell? ⟨g, o + k * 4 + 1, none⟩ = some (.int .i64 x.b.2) ∧ w.cell? ⟨g, o + k * 4 + 2, none⟩ = some (.int .i64 x.d) ∧ w.cell? ⟨g, o + k * 4 + 3, none⟩ = some (.string ⟨x.t.toArray⟩) := by
  obtain ⟨g, o, e, hg, hx⟩ := h.at_ (by omega)
  have hkl : k < L.length := by rw [h.len]; exact hk
  exact ⟨g, o, L[k], e, List.getElem?_eq_getElem hkl, hg, hx k hkl 0 _ rfl, hx k hkl 1 _ rfl, hx k hkl 2 _ rfl, hx k hkl 3 _ rfl⟩

set_option maxHeartbeats 2000000 in
theorem shallow_any (a : Option Addr) (n c : Nat) (L : List Ln) (w : World) (h : LnS w a n c L) (hf : ∀ x ∈ L, x.Fits) : Calls Tryz.prog 17 #[.slice a n c] w fun e w' => e = .returned (.bool (shB L)) ∧ w' = w := by
  have hcap := h.cap
  have hmax := h.max
  unfold maxLen at hmax
  have HL := hid h.len
  have HS := hid h
  have HF := hid hf
  clear h hf
  go_enter Tryz.func17, Tryz.ntmps17
  go_wp2
  go_loopw [3] (fun i wr => ∃ k : Nat, k ≤ n ∧ i = .int .i64 k ∧ Hid (∀ x ∈ L.take k, x.t.length ≤ 1000 ∧ x.d ≤ 1000) ∧ wr = w) (fun i _ => n - (intOf i).toNat)
  case atStart => exact ⟨0, by omega, rfl, hid (by simp), rfl⟩
  case round =>
    obtain ⟨k, hk, rfl, hT, rfl⟩ := hrel
    by_cases hlt : k < n
    · obtain ⟨g, o, x, rfl, hx, hg, c0, c1, c2, c3⟩ := HS.out.look hlt
      have hfit := HF.out x (List.mem_of_getElem? hx)
      have hxl : x.t.toArray.size ≤ 9223372036854775807 := by simpa using hfit.t
      obtain ⟨hd1, hd2⟩ := hfit.d
      have hk1 : (k : Int) < (n : Int) := by omega
      have hk0 : (0 : Int) ≤ (k : Int) := by omega
      have HX := hid hx
      clear hx hfit c0 c1
      by_cases h1 : x.t.length ≤ 1000
      · by_cases h2 : x.d ≤ 1000
        · have b1 : decide (1000 < (x.t.length : Int)) = false := by simp; omega
          have b2 : decide (1000 < x.d) = false := by simp; omega
          have HT2 : Hid (∀ y ∈ L.take (k + 1), y.t.length ≤ 1000 ∧ y.d ≤ 1000) := hid (fun y hy => by
            obtain ⟨hkl, e⟩ := List.getElem?_eq_some_iff.1 HX.out
            rw [List.take_succ_eq_append_getElem hkl, List.mem_append] at hy
            rcases hy with hy | hy
            · exact hT.out y hy
            · rw [List.mem_singleton, e] at hy
              subst hy
              exact ⟨h1, h2⟩)
          have H1 := hid h1
          have H2 := hid h2
          clear h1 h2
          go_wp2
          go_roundw
          case rel => exact ⟨k + 1, by omega, by go_num, HT2, trivial⟩
          case measure => simp [intOf]; omega
        · have b1 : decide (1000 < (x.t.length : Int)) = false := by simp; omega
          have b2 : decide (1000 < x.d) = true := by simp; omega
          have HB := hid (shB_bad HX.out (fun e => h2 e.2))
          clear h1 h2
          go_wp2
          go_ret
          exact ⟨by rw [HB.out]; rfl, rfl⟩
      · have b1 : decide (1000 < (x.t.length : Int)) = true := by simp; omega
        have HB := hid (shB_bad HX.out (fun e => h1 e.1))
        clear h1
        go_wp2
        go_ret
        exact ⟨by rw [HB.out]; rfl, rfl⟩
    · obtain rfl : k = n := by omega
      have HB : Hid (shB L = decide ((k : Int) ≤ 100)) := hid (by
        unfold shB
        have h1 := hT.out
        rw [List.take_of_length_le (by rw [HL.out]; exact Nat.le_refl _)] at h1
        have h2 : L.all (fun x => decide (x.t.length ≤ 1000) && decide (x.d ≤ 1000)) = true := List.all_eq_true.2 (fun x hx => by rw [Bool.and_eq_true, decide_eq_true_eq, decide_eq_true_eq]; exact h1 x hx)
        rw [h2, HL.out]
        simp
        omega)
      go_wp2
      go_ret
      exact ⟨by rw [HB.out]; rfl, rfl⟩
end

section
set_option linter.unusedVariables false
open Go.RowKit

theorem sh_len2 (x : Ln) (hd : x.d ≤ 1000) (ht : x.t.length ≤ 1000) : x.sh.length ≤ 4003 := by
  have := esc_len x.t
  unfold Ln.sh lnB
  simp
  omega

theorem showL_len2 : ∀ L : List Ln, (∀ x ∈ L, x.t.length ≤ 1000 ∧ x.d ≤ 1000) → (showL L).length ≤ 4003 * L.length
  | [], _ => by simp [showL]
  | x :: L, h => by
    have h1 := sh_len2 x (h x (by simp)).2 (h x (by simp)).1
    have h2 := showL_len2 L (fun y hy => h y (by simp [hy]))
    have e : showL (x :: L) = x.sh ++ showL L := by simp [showL]
    rw [e, List.length_append, List.length_cons]
    omega

/-- A line without its block. -/
def strip (x : Ln) : Ln := ⟨(0, 0), x.d, x.t⟩

def mostI (L : List Ln) : Nat → Int
  | 0 => 0
  | i + 1 => match L[i]? with
    | some x => x.d + 1
    | none => 0

/-- May these depths stand one behind the other? -/
def mayP (L : List Ln) : Nat → Bool
  | 0 => true
  | k + 1 => mayP L k && (match L[k]? with
    | some x => decide (0 ≤ x.d) && decide (x.d ≤ mostI L k)
    | none => true)

theorem mayP_step {L : List Ln} {k : Nat} {x : Ln} (h : L[k]? = some x) : mayP L (k + 1) = (mayP L k && (decide (0 ≤ x.d) && decide (x.d ≤ mostI L k))) := by
  show (mayP L k && _) = _
  rw [h]

theorem mayP_at {L : List Ln} : ∀ {n k : Nat} {x : Ln}, mayP L n = true → k < n → L[k]? = some x → 0 ≤ x.d ∧ x.d ≤ mostI L k
  | 0, k, x, _, hk, _ => by omega
  | n + 1, k, x, h, hk, hx => by
    unfold mayP at h
    rw [Bool.and_eq_true] at h
    by_cases e : k = n
    · subst e
      have := h.2
      rw [hx] at this
      simpa using this
    · exact mayP_at h.1 (by omega) hx

def plL (L : List Ln) : List (Nat × List UInt8) := L.map (fun x => (x.d.toNat, x.t))

theorem show_pl : ∀ L : List Ln, showL L = shL (plL L)
  | [] => rfl
  | x :: L => by
    have e : showL (x :: L) = x.sh ++ showL L := by simp [showL]
    have e2 : shL (plL (x :: L)) = x.sh ++ shL (plL L) := by simp [shL, plL, Ln.sh]
    rw [e, e2, show_pl L]

theorem dp_of (L : List Ln) : ∀ (k : Nat), k ≤ L.length → (∀ i x, k ≤ i → L[i]? = some x → 0 ≤ x.d ∧ x.d ≤ mostI L i) → Dp (mostI L k).toNat (plL (L.drop k)) := by
  have key : ∀ (j k : Nat), k + j = L.length → (∀ i x, k ≤ i → L[i]? = some x → 0 ≤ x.d ∧ x.d ≤ mostI L i) → Dp (mostI L k).toNat (plL (L.drop k)) := by
    intro j
    induction j with
    | zero =>
      intro k hk _
      rw [List.drop_of_length_le (by omega)]
      trivial
    | succ j ih =>
      intro k hk h
      have hkl : k < L.length := by omega
      rw [List.drop_eq_getElem_cons hkl]
      have hx : L[k]? = some L[k] := List.getElem?_eq_getElem hkl
      have h1 := h k _ (Nat.le_refl _) hx
      refine ⟨?_, ?_⟩
      · show (L[k]).d.toNat ≤ _
        omega
      · have h2 := ih (k + 1) (by omega) (fun i x hi hx => h i x (by omega) hx)
        have e : mostI L (k + 1) = L[k].d + 1 := by
          show (match L[k]? with | some x => x.d + 1 | none => 0) = _
          rw [hx]
        rw [e] at h2
        have e3 : (L[k].d + 1).toNat = L[k].d.toNat + 1 := by omega
        rw [e3] at h2
        exact h2
  exact fun k hk h => key (L.length - k) k (by omega) h

/-- What is shown is read. -/
theorem back_read {L : List Ln} (h : mayP L L.length = true) : rdM (showL L) = L.map strip ∧ rdE (showL L) = 0 := by
  have hd : Dp 0 (plL L) := dp_of L 0 (Nat.zero_le _) (fun i x _ hx => mayP_at h (List.getElem?_eq_some_iff.1 hx).1 hx)
  have hr : rdR (showL L) = some (plL L) := by
    unfold rdR
    rw [show_pl]
    refine rd_show (plL L) _ 0 ?_ hd
    have hl : ∀ l : List (Nat × List UInt8), l.length ≤ (shL l).length := by
      intro l
      induction l with
      | nil => simp
      | cons x l ih =>
        have e : shL (x :: l) = lnB x.1 x.2 ++ [10] ++ shL l := by simp [shL]
        rw [e, List.length_append, List.length_append, List.length_cons]
        simp
        omega
    have := hl (plL L)
    omega
  unfold rdM rdE
  rw [hr]
  refine ⟨?_, rfl⟩
  show (plL L).map toLn = _
  unfold plL
  rw [List.map_map]
  refine List.map_congr_left (fun x hx => ?_)
  obtain ⟨i, hi⟩ := List.mem_iff_getElem?.1 hx
  have := (mayP_at h (List.getElem?_eq_some_iff.1 hi).1 hi).1
  show toLn (x.d.toNat, x.t) = strip x
  unfold toLn strip
  rw [Int.toNat_of_nonneg this]

theorem sh_three : ∀ l : List (Nat × List UInt8), 3 * l.length ≤ (shL l).length
  | [] => by simp
  | x :: l => by
    have ih := sh_three l
    have e : shL (x :: l) = lnB x.1 x.2 ++ [10] ++ shL l := by simp [shL]
    rw [e, List.length_append, List.length_append, List.length_cons]
    unfold lnB
    simp
    omega

theorem esc_ge (t : List UInt8) : t.length ≤ (esc t).length := by
  induction t with
  | nil => simp
  | cons b t ih =>
    rw [esc_cons, List.length_append, List.length_cons]
    split
    · simp; omega
    · split <;> simp <;> omega

theorem sh_each : ∀ (l : List (Nat × List UInt8)), ∀ x ∈ l, x.1 ≤ (shL l).length ∧ x.2.length ≤ (shL l).length
  | [], x, h => by simp at h
  | y :: l, x, h => by
    have e : shL (y :: l) = lnB y.1 y.2 ++ [10] ++ shL l := by simp [shL]
    rw [e, List.length_append, List.length_append]
    rcases List.mem_cons.1 h with rfl | h
    · have := esc_ge x.2
      unfold lnB
      simp
      omega
    · have := sh_each l x h
      omega

/-- What is read is shown as it was. -/
theorem back_show {s : List UInt8} (h : rdE s = 0) : showL (rdM s) = s ∧ 3 * (rdM s).length ≤ s.length ∧ ∀ x ∈ rdM s, 0 ≤ x.d ∧ x.d ≤ s.length ∧ x.t.length ≤ s.length := by
  unfold rdE at h
  unfold rdM
  cases hr : rdR s with
  | none => rw [hr] at h; simp at h
  | some l =>
    have h1 := (show_rd (s.length + 1) 0 s l (by omega) hr).1
    have h2 := sh_three l
    have h3 := sh_each l
    rw [h1] at h2 h3
    refine ⟨?_, by simpa using h2, fun x hx => ?_⟩
    · show showL (l.map toLn) = s
      rw [show_pl, ← h1]
      congr 1
      unfold plL
      rw [List.map_map]
      conv => rhs; rw [← List.map_id l]
      refine List.map_congr_left (fun x _ => ?_)
      show ((x.1 : Int).toNat, x.2) = x
      simp
    · obtain ⟨y, hy, rfl⟩ := List.mem_map.1 hx
      have := h3 y hy
      show 0 ≤ (y.1 : Int) ∧ (y.1 : Int) ≤ s.length ∧ y.2.length ≤ s.length
      omega

/-- A line is appended to a row of one's own. -/
theorem lns_app {w : World} {B n : Nat} {v : Value} {U : List Ln} (h : w.ownsRow B 54 4 v n (flLn U)) (x : Ln) (hn : n ≤ 1000000) (hB : B ≤ w.heap.size) :
    ∃ a5 c5 w', (Builtin.append_ #[43, 43] 43 #[v, .slice (some ⟨w.heap.size, 0, none⟩) 1 1]).run Tryz.prog (w.alloc (.cells x.cells.toArray 54)) = .ok (.slice a5 (n + 1) c5) w' ∧
      w'.ownsRow B 54 4 (.slice a5 (n + 1) c5) (n + 1) (flLn (U ++ [x])) ∧ Below B w w' := by
  obtain ⟨i0, hi, hz0, hz1, hz2⟩ := info_parts Tryz.infoLn
  have hbl : Below w.heap.size w (w.alloc (.cells x.cells.toArray 54)) := (Below.refl _ w).alloc (Nat.le_refl _) _
  have hx := LnS.new w x
  obtain ⟨v', w', e1, e2, e3, _, e4⟩ := run_append_own_at (P := Tryz.prog) (w.alloc (.cells x.cells.toArray 54)) B 43 43 54 i0 _ 4 40 Tryz.underlying43 hi hz0 hz1 hz2 rfl (by decide) v n (flLn U) (lns_below h hbl) ⟨w.heap.size, 0, none⟩ 1 1 (flLn [x]) (by rw [flLn_length]; rfl) (hx.allcells rfl (by decide)) (flLn_one [x]) (by unfold maxLen; omega) (by omega) (Nat.le_trans hB hbl.size)
  rw [← flLn_append] at e2
  obtain ⟨a5, c5, hv5, _⟩ := own_lns e2
  subst hv5
  refine ⟨a5, c5, w', e1, e2, olbel_grown (hbl.mono hB) e3 (Nat.le_trans hB hbl.size) (fun k hk => (lns_own h hk).1)⟩
end

section
set_option linter.unusedVariables false
open Go.RowKit Go.Shelf

def lnEq (x y : Ln) : Bool := decide (x.b = y.b) && decide (x.d = y.d) && decide (x.t = y.t)
theorem lnEq_iff {x y : Ln} : lnEq x y = true ↔ x = y := by
  unfold lnEq
  rw [Bool.and_eq_true, Bool.and_eq_true, decide_eq_true_eq, decide_eq_true_eq, decide_eq_true_eq]
  constructor
  · rintro ⟨⟨h1, h2⟩, h3⟩
    cases x; cases y
    simp at h1 h2 h3
    rw [h1, h2, h3]
  · rintro rfl
    exact ⟨⟨rfl, rfl⟩, rfl⟩

/-- Are two rows the same? -/
def lnsB : List Ln → List Ln → Bool
  | [], [] => true
  | x :: l, y :: m => lnEq x y && lnsB l m
  | _, _ => false
theorem lnsB_iff : ∀ {l m : List Ln}, lnsB l m = true ↔ l = m
  | [], [] => by simp [lnsB]
  | x :: l, y :: m => by
    unfold lnsB
    rw [Bool.and_eq_true, lnEq_iff, lnsB_iff]
    simp
  | [], y :: m => by simp [lnsB]
  | x :: l, [] => by simp [lnsB]
theorem lnsB_no {l m : List Ln} (h : l ≠ m) : lnsB l m = false := by
  cases e : lnsB l m with
  | false => rfl
  | true => exact absurd (lnsB_iff.1 e) h

theorem LnS.drewN {w : World} {a : Option Addr} {n c : Nat} {L : List Ln} (h : LnS w a n c L) (q : Nat) : LnS (w.drewN q) a n c L := ⟨h.len, h.cap, h.max, h.nil, h.at_⟩

set_option maxHeartbeats 4000000 in
theorem lsame_any (a : Option Addr) (n c : Nat) (L : List Ln) (a' : Option Addr) (n' c' : Nat) (M : List Ln) (w : World) (hs : LnS w a n c L) (hs' : LnS w a' n' c' M) :
    Calls Tryz.prog 14 #[.slice a n c, .slice a' n' c'] w fun e w' => e = .returned (.bool (lnsB L M)) ∧ ∃ q, w' = w.drewN q := by
  have mixed := mixed
  have hl := hs.len
  have hl' := hs'.len
  have hcap := hs.cap
  have hmax := hs.max
  have hcap' := hs'.cap
  have hmax' := hs'.max
  unfold maxLen at hmax hmax'
  by_cases hnn : n = n'
  · subst hnn
    have HS := hid hs
    have HS' := hid hs'
    have HL := hid hl
    have HL' := hid hl'
    clear hs hs' hl hl'
    go_enter Tryz.func14, Tryz.ntmps14
    go_wp2
    go_loopw [5] (fun i wr => ∃ k : Nat, k ≤ n ∧ i = .int .i64 k ∧ Hid (L.take k = M.take k) ∧ ∃ q, Hid (wr = w.drewN q)) (fun i _ => n - (intOf i).toNat)
    case atStart => exact ⟨0, by omega, rfl, hid (by simp), 0, hid rfl⟩
    case round =>
      obtain ⟨k, hk, rfl, htk, qw, hw⟩ := hrel
      by_cases hlt : k < n
      · have hs1 : LnS wr a n c L := by rw [hw.out]; exact HS.out.drewN qw
        have hs1' : LnS wr a' n c' M := by rw [hw.out]; exact HS'.out.drewN qw
        obtain ⟨g, o, x, rfl, hx, hg, c0, c1, c2, c3⟩ := hs1.look hlt
        obtain ⟨g', o', y, rfl, hy, hg', d0, d1, d2, d3⟩ := hs1'.look hlt
        have HX := hid hx
        have HY := hid hy
        clear hx hy hs1 hs1'
        obtain ⟨⟨x1, x2⟩, xd, xt⟩ := x
        obtain ⟨⟨y1, y2⟩, yd, yt⟩ := y
        have C0 : ∀ m, (wr.drewN m).cell? ⟨g, o + k * 4, none⟩ = some (.int .i64 x1) := fun _ => c0
        have C1 : ∀ m, (wr.drewN m).cell? ⟨g, o + k * 4 + 1, none⟩ = some (.int .i64 x2) := fun _ => c1
        have C2 : ∀ m, (wr.drewN m).cell? ⟨g, o + k * 4 + 2, none⟩ = some (.int .i64 xd) := fun _ => c2
        have C3 : ∀ m, (wr.drewN m).cell? ⟨g, o + k * 4 + 3, none⟩ = some (.string ⟨xt.toArray⟩) := fun _ => c3
        have E0 : ∀ m, (wr.drewN m).cell? ⟨g', o' + k * 4, none⟩ = some (.int .i64 y1) := fun _ => d0
        have E1 : ∀ m, (wr.drewN m).cell? ⟨g', o' + k * 4 + 1, none⟩ = some (.int .i64 y2) := fun _ => d1
        have E2 : ∀ m, (wr.drewN m).cell? ⟨g', o' + k * 4 + 2, none⟩ = some (.int .i64 yd) := fun _ => d2
        have E3 : ∀ m, (wr.drewN m).cell? ⟨g', o' + k * 4 + 3, none⟩ = some (.string ⟨yt.toArray⟩) := fun _ => d3
        have hk1 : (k : Int) < (n : Int) := by omega
        have hk0 : (0 : Int) ≤ (k : Int) := by omega
        clear c0 c1 c2 c3 d0 d1 d2 d3
        have HNO : Hid ((⟨(x1, x2), xd, xt⟩ : Ln) ≠ ⟨(y1, y2), yd, yt⟩ → lnsB L M = false) := hid (fun h => lnsB_no (fun e => by
          have h1 := HX.out
          rw [e, HY.out] at h1
          exact h (Option.some.inj h1).symm))
        by_cases h0 : x1 = y1
        · subst h0
          by_cases h1 : x2 = y2
          · subst h1
            by_cases h2 : xd = yd
            · subst h2
              by_cases h3 : xt = yt
              · subst h3
                have HTS : Hid (L.take (k + 1) = M.take (k + 1)) := hid (by
                  obtain ⟨e1, e2⟩ := List.getElem?_eq_some_iff.1 HX.out
                  obtain ⟨e3, e4⟩ := List.getElem?_eq_some_iff.1 HY.out
                  rw [List.take_succ_eq_append_getElem e1, List.take_succ_eq_append_getElem e3, e2, e4, htk.out])
                go_wp2_with fail
                go_quiet (fail)
                go_wp2
                go_roundw
                case rel => exact ⟨k + 1, by omega, by go_num, HTS, qw + nq, hid (by rw [hw.out, World.drewN_drewN])⟩
                case measure => simp [intOf]; omega
              · have hb := hid (HNO.out (fun e => h3 (by injection e)))
                go_wp2_with fail
                go_quiet (fail)
                go_wp2
                go_ret
                exact ⟨by rw [hb.out]; rfl, qw + nq, by rw [hw.out, World.drewN_drewN]⟩
            · have hb := hid (HNO.out (fun e => h2 (by injection e)))
              go_wp2_with fail
              go_quiet (fail)
              go_wp2
              go_ret
              exact ⟨by rw [hb.out]; rfl, qw + nq, by rw [hw.out, World.drewN_drewN]⟩
          · have hb := hid (HNO.out (fun e => h1 (by injection e with e _ _; injection e)))
            go_wp2_with fail
            go_quiet (fail)
            go_wp2
            go_ret
            exact ⟨by rw [hb.out]; rfl, qw + nq, by rw [hw.out, World.drewN_drewN]⟩
        · have hb := hid (HNO.out (fun e => h0 (by injection e with e _ _; injection e)))
          go_wp2_with fail
          go_quiet (fail)
          go_wp2
          go_ret
          exact ⟨by rw [hb.out]; rfl, qw + nq, by rw [hw.out, World.drewN_drewN]⟩
      · obtain rfl : k = n := by omega
        have HB : Hid (lnsB L M = true) := hid (lnsB_iff.2 (by
          have h1 := htk.out
          rw [List.take_of_length_le (by rw [HL.out]; exact Nat.le_refl _), List.take_of_length_le (by rw [HL'.out]; exact Nat.le_refl _)] at h1
          exact h1))
        go_wp2
        go_ret
        exact ⟨by rw [HB.out]; rfl, qw, hw.out⟩
  · have hb := hid (lnsB_no (l := L) (m := M) (fun e => hnn (by rw [← hl, ← hl', e])))
    clear hl hl' hs hs'
    go_enter Tryz.func14, Tryz.ntmps14
    go_wp2
    go_ret
    exact ⟨by rw [hb.out]; rfl, 0, rfl⟩
end

section
open Go.RowKit Go.Sort Go.Maps

/-- Where each dot stands first. -/
def pl (L : List Dt) (d : Dt) : Option Int := if d ∈ L then some (L.idxOf d : Int) else Option.none
end

section
set_option linter.unusedVariables false
open Go.RowKit

/-- A tree of these moves; the blocks of which P holds are none of its own. -/
def TP (W : World) (t : Nat) (l : List Mv) (P : Nat → Prop) : Prop := ∃ A, TT W t l A ∧ ∀ j, P j → ¬ A j ∧ j < W.heap.size

/-- Blocks of which P holds are as they were. -/
structure KP (P : Nat → Prop) (W W' : World) : Prop where
  size : W.heap.size ≤ W'.heap.size
  keep : ∀ j, P j → W'.heap[j]? = W.heap[j]?
  sm : Sm W W'

theorem KP.refl (P : Nat → Prop) (W : World) : KP P W W := ⟨Nat.le_refl _, fun _ _ => rfl, Sm.refl _⟩
theorem KP.trans {P : Nat → Prop} {a b c : World} (h : KP P a b) (k : KP P b c) : KP P a c := ⟨Nat.le_trans h.size k.size, fun j hj => (k.keep j hj).trans (h.keep j hj), h.sm.trans k.sm⟩
theorem KP.mono {P Q : Nat → Prop} {a b : World} (h : KP P a b) (hq : ∀ j, Q j → P j) : KP Q a b := ⟨h.size, fun j hj => h.keep j (hq j hj), h.sm⟩
theorem KP.below {P : Nat → Prop} {a b : World} (h : Below a.heap.size a b) (hp : ∀ j, P j → j < a.heap.size) : KP P a b := ⟨h.size, fun j hj => h.block j (hp j hj), Sm.b h⟩
theorem KP.bel {a b : World} {n : Nat} (h : KP (fun j => j < n) a b) : Below n a b := ⟨h.sm.1, h.sm.2.1, h.sm.2.2, h.size, fun j hj => h.keep j hj⟩
theorem KP.drew {P : Nat → Prop} {a b : World} (h : KP P a b) : KP P a b.drew := ⟨h.size, h.keep, h.sm⟩

theorem TP.lt {W : World} {t : Nat} {l : List Mv} {P : Nat → Prop} (h : TP W t l P) : ∀ j, P j → j < W.heap.size := by
  obtain ⟨A, _, hA⟩ := h
  exact fun j hj => (hA j hj).2
theorem TP.log {W : World} {t : Nat} {l : List Mv} {P : Nat → Prop} (h : TP W t l P) : Lg l ∧ (∀ m ∈ l, Dw m.id ∧ Dw m.block ∧ Dw m.parent) ∧ l.length ≤ 1000 := by
  obtain ⟨A, h, _⟩ := h
  exact h.log
theorem TP.mono {W : World} {t : Nat} {l : List Mv} {P Q : Nat → Prop} (h : TP W t l P) (hq : ∀ j, Q j → P j) : TP W t l Q := by
  obtain ⟨A, h1, h2⟩ := h
  exact ⟨A, h1, fun j hj => h2 j (hq j hj)⟩

/-- Blocks that are none of the tree's may turn, and there may be new ones. -/
theorem TP.turn {W V : World} {t : Nat} {l : List Mv} {P Q : Nat → Prop} (h : TP W t l P) (hz : W.heap.size ≤ V.heap.size) (hk : ∀ j, j < W.heap.size → ¬ P j → V.heap[j]? = W.heap[j]?) (hq : ∀ j, Q j → P j ∨ (W.heap.size ≤ j ∧ j < V.heap.size)) : TP V t l Q := by
  obtain ⟨A, h1, h2⟩ := h
  refine ⟨A, h1.same hz (fun j hj => hk j (h1.lt j hj) (fun e => (h2 j e).1 hj)), fun j hj => ?_⟩
  rcases hq j hj with e | e
  · exact ⟨(h2 j e).1, Nat.lt_of_lt_of_le (h2 j e).2 hz⟩
  · exact ⟨fun e' => absurd (h1.lt j e') (by omega), e.2⟩
theorem TP.below {W V : World} {t : Nat} {l : List Mv} {P : Nat → Prop} (h : TP W t l P) (hb : Below W.heap.size W V) : TP V t l P := h.turn hb.size (fun j hj _ => hb.block j hj) (fun j hj => Or.inl hj)
theorem TP.alloc {W : World} {t : Nat} {l : List Mv} {P : Nat → Prop} (h : TP W t l P) (o : Obj) : TP (W.alloc o) t l (fun j => P j ∨ j = W.heap.size) :=
  h.turn (by simp) (fun j hj _ => Below.heap_alloc W o j hj) (fun j hj => hj.imp id (fun e => by subst e; simp))
theorem TP.drew {W : World} {t : Nat} {l : List Mv} {P : Nat → Prop} (h : TP W t l P) : TP W.drew t l P := h.turn (Nat.le_refl _) (fun j _ _ => rfl) (fun j hj => Or.inl hj)

theorem foreign {W W' : World} {A A' : Nat → Prop} (h : KA W W' A A') {j : Nat} (hj : ¬ A j ∧ j < W.heap.size) : ¬ A' j ∧ j < W'.heap.size :=
  ⟨fun e => by
    rcases h.new j e with e | e
    · exact hj.1 e
    · omega, Nat.lt_of_lt_of_le hj.2 h.size⟩

theorem TP.next {W W' : World} {t : Nat} {l' : List Mv} {A A' P : Nat → Prop} (hA : ∀ j, P j → ¬ A j ∧ j < W.heap.size) (h2 : TT W' t l' A') (h3 : KA W W' A A') : TP W' t l' P ∧ KP P W W' :=
  ⟨⟨A', h2, fun j hj => foreign h3 (hA j hj)⟩, ⟨h3.size, fun j hj => h3.keep j (hA j hj).2 (hA j hj).1, h3.sm⟩⟩

theorem new_tp (w : World) : Calls Tryz.prog 27 #[] w fun e w' => e = .returned (.pointer (some ⟨w.heap.size, 0, none⟩)) ∧ TP w' w.heap.size [] (fun j => j < w.heap.size) ∧ Below w.heap.size w w' :=
  (new_tt w).mono (fun e w' h => ⟨h.1, ⟨_, h.2.1, fun j hj => ⟨by omega, Nat.lt_of_lt_of_le hj h.2.2.size⟩⟩, h.2.2⟩)

theorem move_tp {t : Nat} {l : List Mv} {P : Nat → Prop} (m : Mv) {W : World} (h : TP W t l P) (hd : Dw m.id ∧ Dw m.block ∧ Dw m.parent) (hs : l.length + 1 ≤ 1000) : Calls Tryz.prog 28 #[.pointer (some ⟨t, 0, none⟩), dv m.id, .int .i64 m.time, dv m.block, dv m.parent, .string m.key] W fun e W' => e = .returned (.int .i64 (mvE l m)) ∧ TP W' t (mvL l m) P ∧ KP P W W' := by
  obtain ⟨A, hT, hA⟩ := h
  refine (move_any t l A m W hT hd hs).mono ?_
  rintro e W' ⟨e1, A', h2, h3⟩
  exact ⟨e1, TP.next hA h2 h3⟩
end
end Go.Proofs.YtnmdcdphpcpojaaGreatDoor
