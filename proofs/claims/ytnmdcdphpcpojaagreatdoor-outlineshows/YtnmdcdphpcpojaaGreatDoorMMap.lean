/- Rows of dots in memory; maps of dots as functions. No function of the program. -/
import Derived.Test.YtnmdcdphpcpojaaGreatDoorOlShelfP
import Derived.Test.YtnmdcdphpcpojaaGreatDoorOlSmall
import Derived.BigQuiet
import Derived.Maps.AppendAt
import Derived.Lib.SlBytesRow
import Derived.Lib.BufferRead
import Derived.Test.YtnmdcdphpcpojaaGreatDoorTrMath
import Derived.WalkKit
import Derived.Below
import Derived.Maps.OwnSet
import Derived.Maps.RangeWalk
import Derived.Sort.KeysCollected
namespace Go.Proofs.YtnmdcdphpcpojaaGreatDoor
section
set_option linter.unusedVariables false
open Go.Shelf Go.RowKit

/-- A line that is read. -/
def toLn (x : Nat × List UInt8) : Ln := ⟨(0, 0), x.1, x.2⟩

/-- What Read tells: the lines, the error. -/
def rdR (l : List UInt8) : Option (List (Nat × List UInt8)) := rdL (l.length + 1) 0 l
def rdE (l : List UInt8) : Int := if (rdR l).isSome = true then 0 else 11
def rdM (l : List UInt8) : List Ln := ((rdR l).getD []).map toLn

theorem rd_nil (f deep : Nat) : rdL (f + 1) deep [] = some [] := by simp [rdL]
theorem rd_no {f deep : Nat} {q : List UInt8} (h : q ≠ []) (hn : (10 : UInt8) ∉ q) : rdL (f + 1) deep q = none := by
  unfold rdL
  rw [if_neg h, cut_no hn]
  simp
theorem rd_bad {f deep : Nat} {p r : List UInt8} (hp : (10 : UInt8) ∉ p) (hr : rline p = none) : rdL (f + 1) deep (p ++ 10 :: r) = none := by
  unfold rdL
  rw [if_neg (by simp), cut_mid hp]
  simp [hr]
theorem rd_deep {f deep : Nat} {p r : List UInt8} (hp : (10 : UInt8) ∉ p) {x : Nat × List UInt8} (hr : rline p = some x) (hd : deep < x.1) : rdL (f + 1) deep (p ++ 10 :: r) = none := by
  unfold rdL
  rw [if_neg (by simp), cut_mid hp]
  simp [hr, hd]
theorem rd_step {f deep : Nat} {p r : List UInt8} (hp : (10 : UInt8) ∉ p) {x : Nat × List UInt8} (hr : rline p = some x) (hd : x.1 ≤ deep) : rdL (f + 1) deep (p ++ 10 :: r) = (rdL f (x.1 + 1) r).map (x :: ·) := by
  conv => lhs; unfold rdL
  rw [if_neg (by simp), cut_mid hp]
  simp only [if_true, hr]
  rw [if_neg (by omega)]

theorem LnS.new (W : World) (x : Ln) : LnS (W.alloc (.cells x.cells.toArray 54)) (some ⟨W.heap.size, 0, none⟩) 1 1 [x] :=
  ⟨rfl, Nat.le_refl _, by decide, (fun e => nomatch e), fun _ => ⟨W.heap.size, 0, rfl, by simp, fun i hi j u hj => by
    have h : i = 0 := by simpa using hi
    subst h
    have hb := World.alloc_heap_new W (.cells x.cells.toArray 54)
    rw [Lib.cell_of_heap hb]
    simpa using hj⟩⟩

theorem lns_below {w w' : World} {B n : Nat} {v : Value} {xs : List Value} (h : w.ownsRow B 54 4 v n xs) (hb : Below w.heap.size w w') : w'.ownsRow B 54 4 v n xs := by
  refine h.kept (row := Option.none) ⟨hb.os, hb.tape, hb.output, hb.size, fun k hk _ => hb.block k hk⟩ ?_
  cases v.ownBlock with
  | none => exact Or.inl rfl
  | some g => exact Or.inr (fun e => nomatch e)

theorem lns_own {w : World} {B n : Nat} {v : Value} {xs : List Value} (h : w.ownsRow B 54 4 v n xs) {k : Nat} (hk : v.ownBlock = some k) : B ≤ k ∧ k < w.heap.size ∧ ∃ cs, w.heap[k]? = some (.cells cs 54 (0, 0)) := by
  rcases h.2 with ⟨rfl, _⟩ | ⟨g, cap, cur, rfl, hb, hgb, _⟩
  · simp [Value.ownBlock] at hk
  · obtain rfl : g = k := by simpa [Value.ownBlock] using hk
    exact ⟨hb, (Array.getElem?_eq_some_iff.1 hgb).1, cur, hgb⟩

theorem olbel_grown {n : Nat} {a b c : World} {r : Option Nat} (h : Below n a b) (g : b.grownBy c r) (hn : n ≤ b.heap.size) (hr : ∀ k, r = some k → n ≤ k) : Below n a c :=
  ⟨g.os.trans h.os, g.tape.trans h.tape, g.output.trans h.output, Nat.le_trans h.size g.size, fun k hk => (g.block k (by omega) (fun e => by have := hr k e.symm; omega)).trans (h.block k hk)⟩

theorem rline_le {p : List UInt8} {x : Nat × List UInt8} (h : rline p = some x) : x.1 ≤ p.length := by
  unfold rline at h
  split at h
  · obtain ⟨t, _, rfl⟩ := Option.map_eq_some_iff.1 h
    show (p.length - _) / 2 ≤ _
    omega
  · cases h

set_option maxRecDepth 100000 in
set_option maxHeartbeats 2000000 in
theorem read_any (l : List UInt8) (m : Int) (w : World) (hs : l.length < 1000000) (hm : w.cell? ⟨0, 0, none⟩ = some (.int .i64 m)) (h0 : 0 < w.heap.size) :
    Calls Tryz.prog 20 #[.string (sB l)] w fun e w' => ∃ v, e = .returned (.tuple #[v, .int .i64 (rdE l)]) ∧ w'.ownsRow w.heap.size 54 4 v (rdM l).length (flLn (rdM l)) ∧ Below w.heap.size w w' := by
  go_enter Tryz.func20, Tryz.ntmps20
  go_wp2
  go_loopw [0, 4, 5] (fun s o d wr => ∃ (q : List UInt8) (L : List (Nat × List UInt8)) (deep f : Nat), s = .string (sB q) ∧ d = .int .i64 deep ∧ q.length < f ∧ deep ≤ 1000001 ∧ L.length + q.length ≤ l.length ∧ Hid (rdR l = (rdL f deep q).map (L ++ ·)) ∧ Hid (wr.ownsRow w.heap.size 54 4 o L.length (flLn (L.map toLn))) ∧ Below w.heap.size w wr) (fun s _ _ _ => szV s)
  case atStart => exact ⟨l, [], 0, l.length + 1, rfl, rfl, by omega, by omega, by simp, hid (by unfold rdR; simp), hid (World.ownsRow_nil _ _ _ _), Below.refl _ _⟩
  case round =>
    obtain ⟨q, L, deep, f, rfl, rfl, hf, hdp, hlen, HR, HO, hB⟩ := hrel
    obtain ⟨f, rfl⟩ : ∃ f', f = f' + 1 := ⟨f - 1, by omega⟩
    have hmr : wr.cell? ⟨0, 0, none⟩ = some (.int .i64 m) := by rw [hB.cell (by simpa using h0)]; exact hm
    by_cases hq : q = []
    · subst hq
      have HF : Hid (rdR l = some L) := hid (by rw [HR.out, rd_nil]; simp)
      go_wp2
      go_ret2
      have e1 : rdM l = L.map toLn := by unfold rdM; rw [HF.out]; rfl
      have e2 : rdE l = 0 := by unfold rdE; rw [HF.out]; rfl
      refine ⟨u4, ?_, ?_, hB⟩
      · rw [e2]; rfl
      · rw [e1, List.length_map]; exact HO.out
    · have hC := cut_any q 10 m wr (by omega) hmr
      have hqe : q.isEmpty = false := by
        cases q with
        | nil => exact absurd rfl hq
        | cons b q => rfl
      have HQ := hid hq
      clear hq
      obtain ⟨fd, hfd⟩ : ∃ fd, fd = (Lib.cut q [10]).2.2 := ⟨_, rfl⟩
      obtain ⟨ps, hps⟩ : ∃ ps, ps = (Lib.cut q [10]).1 := ⟨_, rfl⟩
      obtain ⟨rs, hrs⟩ : ∃ rs, rs = (Lib.cut q [10]).2.1 := ⟨_, rfl⟩
      rw [← hfd, ← hps, ← hrs] at hC
      have hpl : ps.length + rs.length ≤ q.length ∧ (fd = true → ps.length + rs.length < q.length) := by
        rcases cut_cases 10 q with hn | ⟨p, r, rfl, hp⟩
        · rw [cut_no hn] at hps hrs hfd; rw [hps, hrs, hfd]; simp
        · rw [cut_mid hp] at hps hrs hfd; rw [hps, hrs]; simp only [List.length_append, List.length_cons]; exact ⟨by omega, fun _ => by omega⟩
      have HRD : Hid ((fd = false ∨ rline ps = none → rdR l = none) ∧ (∀ x, fd = true → rline ps = some x → (deep < x.1 → rdR l = none) ∧ (x.1 ≤ deep → rdR l = (rdL f (x.1 + 1) rs).map ((L ++ [x]) ++ ·)))) := hid (by
        rcases cut_cases 10 q with hn | ⟨p, r, rfl, hp⟩
        · rw [cut_no hn] at hps hrs hfd
          refine ⟨fun _ => by rw [HR.out, rd_no HQ.out hn]; rfl, fun x h => by rw [hfd] at h; cases h⟩
        · rw [cut_mid hp] at hps hrs hfd
          subst hps
          subst hrs
          refine ⟨fun h => ?_, fun x _ hx => ⟨fun h => by rw [HR.out, rd_deep hp hx h]; rfl, fun h => ?_⟩⟩
          · rcases h with h | h
            · rw [hfd] at h; cases h
            · rw [HR.out, rd_bad hp h]; rfl
          · rw [HR.out, rd_step hp hx h, Option.map_map]
            congr 1
            funext z
            simp)
      obtain ⟨hpl1, hpl2⟩ := hpl
      have HPL := hid hpl2
      clear hfd hps hrs hpl2
      obtain ⟨ok, hok⟩ : ∃ ok, ok = (rline ps).isSome := ⟨_, rfl⟩
      obtain ⟨xd, hxd⟩ : ∃ xd, xd = ((rline ps).getD (0, [])).1 := ⟨_, rfl⟩
      obtain ⟨xt, hxt⟩ : ∃ xt, xt = ((rline ps).getD (0, [])).2 := ⟨_, rfl⟩
      have HX : Hid (ok = true → rline ps = some (xd, xt)) := hid (fun h => by
        rw [hok] at h
        obtain ⟨x, hx⟩ := Option.isSome_iff_exists.1 h
        rw [hx] at hxd hxt
        rw [hx, hxd, hxt]
        rfl)
      have HXN : Hid (ok = false → rline ps = none) := hid (fun h => by
        rw [hok] at h
        cases e : rline ps with
        | none => rfl
        | some x => rw [e] at h; cases h)
      have hxl : xd ≤ 1000000 := by
        rw [hxd]
        cases e : rline ps with
        | none => simp
        | some x => have := rline_le e; show x.1 ≤ _; omega
      have HRL : ∀ W, W.cell? ⟨0, 0, none⟩ = some (.int .i64 m) → 0 < W.heap.size → Calls Tryz.prog 51 #[.string (sB ps)] W fun e w' => e = .returned (.tuple #[.agg #[.int .i64 0, .int .i64 0, .int .i64 xd, .string (sB xt)], .bool ok]) ∧ Below W.heap.size W w' := fun W h1 h2 => by
        have := readLine_any ps m W (by omega) h1 h2
        rw [hok, hxd, hxt]
        exact this
      clear hok hxd hxt
      have hz0 : 0 < wr.heap.size := by have := hB.size; omega
      have hmq : ∀ k, (wr.drewN k).cell? ⟨0, 0, none⟩ = some (.int .i64 m) := fun _ => hmr
      have hzq : ∀ k, 0 < (wr.drewN k).heap.size := fun _ => hz0
      have hBq : ∀ k, Below w.heap.size w (wr.drewN k) := fun k => hB.trans (((Far.refl wr).drewN k).below.mono hB.size)
      have HOq : ∀ k, Hid ((wr.drewN k).ownsRow w.heap.size 54 4 u4 L.length (flLn (L.map toLn))) := fun _ => HO
      go_upto_region 6 with (first
        | (go_at_call 50; refine hC.mono ?_; rintro e w1 ⟨rfl, nn, rfl⟩)
        | (go_at_call 51; refine (HRL (wr.drewN nn) (hmq nn) (hzq nn)).mono ?_; rintro e w2 ⟨rfl, hB2⟩))
      obtain ⟨W3, hW3⟩ : ∃ W3, W3 = w2.alloc (.cells #[.int .i64 0, .int .i64 0, .int .i64 xd, .string (sB xt)] 54) := ⟨_, rfl⟩
      have hB3 : Below w.heap.size w W3 := by
        have h2 := (hBq nn).trans (hB2.mono (hBq nn).size)
        rw [hW3]
        exact h2.alloc h2.size _
      have hB23 : Below (wr.drewN nn).heap.size (wr.drewN nn) W3 := by rw [hW3]; exact hB2.alloc hB2.size _
      obtain ⟨qb, hqb⟩ : ∃ qb, qb = w2.heap.size := ⟨_, rfl⟩
      have hbq : W3.heap[qb]? = some (.cells #[.int .i64 0, .int .i64 0, .int .i64 xd, .string (sB xt)] 54 (0, 0)) := by rw [hW3, hqb]; exact World.alloc_heap_new w2 _
      have hqge : (wr.drewN nn).heap.size ≤ qb := by rw [hqb]; exact hB2.size
      have HO3 := hid (lns_below (HOq nn).out hB23)
      rw [← hW3, ← hqb]
      have HB3 := hid hB3
      have HQG := hid hqge
      have HONN := HOq nn
      have HW3s : Hid (w.heap.size ≤ W3.heap.size) := hid hB3.size
      clear hW3 hqb hB23 hB3 hqge hB2 HOq hBq hzq hmq
      obtain ⟨fz, k0, k1, k2, k3⟩ : W3.frozen? ⟨qb, 0, none⟩ = false ∧ W3.cell? ⟨qb, 0, none⟩ = some (.int .i64 0) ∧ W3.cell? ⟨qb, 1, none⟩ = some (.int .i64 0) ∧ W3.cell? ⟨qb, 2, none⟩ = some (.int .i64 xd) ∧ W3.cell? ⟨qb, 3, none⟩ = some (.string (sB xt)) := by
        refine ⟨Lib.frozen_of_heap hbq 0, ?_, ?_, ?_, ?_⟩ <;> (rw [Lib.cell_of_heap hbq]; rfl)
      have HBQ := hid hbq
      clear hbq
      have hbad : Hid (rdR l = none → rdM l = [] ∧ rdE l = 11) := hid (fun h => by unfold rdM rdE; rw [h]; exact ⟨rfl, rfl⟩)
      cases fd with
      | false =>
        obtain ⟨m1, m2⟩ := hbad.out (HRD.out.1 (Or.inl rfl))
        have M1 := hid m1
        have M2 := hid m2
        clear m1 m2
        go_wp2
        go_ret2
        refine ⟨.slice Option.none 0 0, by rw [M2.out]; rfl, by rw [M1.out]; exact World.ownsRow_nil _ _ _ _, HB3.out⟩
      | true =>
        cases ok with
        | false =>
          obtain ⟨m1, m2⟩ := hbad.out (HRD.out.1 (Or.inr (HXN.out rfl)))
          have M1 := hid m1
          have M2 := hid m2
          clear m1 m2
          go_wp2
          go_ret2
          refine ⟨.slice Option.none 0 0, by rw [M2.out]; rfl, by rw [M1.out]; exact World.ownsRow_nil _ _ _ _, HB3.out⟩
        | true =>
          by_cases hgt : deep < xd
          · have hd1 : decide ((deep : Int) < (xd : Int)) = true := by simp [hgt]
            obtain ⟨m1, m2⟩ := hbad.out ((HRD.out.2 (xd, xt) rfl (HX.out rfl)).1 hgt)
            have M1 := hid m1
            have M2 := hid m2
            clear m1 m2
            go_wp2
            go_ret2
            refine ⟨.slice Option.none 0 0, by rw [M2.out]; rfl, by rw [M1.out]; exact World.ownsRow_nil _ _ _ _, HB3.out⟩
          · have hd1 : decide ((deep : Int) < (xd : Int)) = false := by simp; omega
            have HST := hid ((HRD.out.2 (xd, xt) rfl (HX.out rfl)).2 (by omega))
            have hLl : L.length ≤ 1000000 := by omega
            have HNW := hid (LnS.new W3 (toLn (xd, xt)))
            have HOW := hid (lns_below HO3.out ((Below.refl W3.heap.size W3).alloc (Nat.le_refl _) (.cells (toLn (xd, xt)).cells.toArray 54)))
            have HBW := hid (HB3.out.alloc HW3s.out (.cells (toLn (xd, xt)).cells.toArray 54))
            have hNE : Hid (∀ k, u4.ownBlock = some k → w.heap.size ≤ k ∧ k ≠ qb) := hid (fun k hk => by
              obtain ⟨e1, e2, _⟩ := lns_own HONN.out hk
              have := HQG.out
              exact ⟨e1, by omega⟩)
            have hql : Hid (qb < (W3.alloc (.cells (toLn (xd, xt)).cells.toArray 54)).heap.size) := hid (by have := (Array.getElem?_eq_some_iff.1 HBQ.out).1; rw [World.size_alloc]; omega)
            go_upto_region 9 with (at_builtin; refine wpList_append_lns rfl _ _ 43 Tryz.underlying43 rfl w.heap.size u4 L.length (L.map toLn) rfl HOW.out (some ⟨W3.heap.size, 0, Option.none⟩) 1 1 [toLn (xd, xt)] rfl HNW.out (by omega) (by rw [World.size_alloc]; have := HW3s.out; omega) ?_; rintro v5 W5 ho5 hg5)
            have hq5 : W5.heap[qb]? = some (.cells #[.int .i64 0, .int .i64 0, .int .i64 xd, .string (sB xt)] 54 (0, 0)) := (hg5.block qb hql.out (fun e => (hNE.out qb e.symm).2 rfl)).trans ((Below.heap_alloc _ _ _ (by have := (Array.getElem?_eq_some_iff.1 HBQ.out).1; exact this)).trans HBQ.out)
            have g2 : W5.cell? ⟨qb, 2, none⟩ = some (.int .i64 xd) := by rw [Lib.cell_of_heap hq5]; rfl
            have HB5 := hid (olbel_grown HBW.out hg5 (by rw [World.size_alloc]; have := HW3s.out; omega) (fun k hk => (hNE.out k hk).1))
            have HO5 := hid ho5
            clear hq5 ho5 hg5
            go_quiet (fail)
            have HF : Hid (Below w.heap.size w (W5.drewN nq)) := hid (HB5.out.trans (((Far.refl W5).drewN nq).below.mono HB5.out.size))
            go_wp2
            go_roundw
            case rel =>
              refine ⟨rs, L ++ [(xd, xt)], xd + 1, f, rfl, by go_num, ?_, by omega, ?_, HST, hid ?_, HF.out⟩
              · have := HPL.out rfl; omega
              · have := HPL.out rfl; simp; omega
              · rw [List.map_append, List.length_append]; exact HO5.out
            case measure => show (sB rs).size < (sB q).size; rw [sB_size, sB_size]; have := HPL.out rfl; omega
end

section
set_option linter.unusedVariables false
open Go.RowKit Go.Shelf

theorem Tryz.olU8 : (Tryz.prog.info? 5).map (fun i => (i.zero, i.size, i.bytes)) = some (some (.int .u8 0), 1, 1) := by kernel_rfl

theorem new_bytes (W : World) (T : List UInt8) : ∀ j u, (Lib.byteCells T)[j]? = some u → (W.alloc (.cells (Lib.byteCells T).toArray 5)).cell? ((⟨W.heap.size, 0, none⟩ : Addr).add j) = some u := by
  intro j u hu
  have ea : ((⟨W.heap.size, 0, none⟩ : Addr).add j) = ⟨W.heap.size, j, none⟩ := by unfold Addr.add; split <;> simp_all
  rw [ea, Lib.cell_of_heap (World.alloc_heap_new W (.cells (Lib.byteCells T).toArray 5))]
  simpa using hu

theorem bytes_ones (T : List UInt8) : ∀ u ∈ Lib.byteCells T, u.oneCell' = true := by
  intro u hu
  unfold Lib.byteCells at hu
  obtain ⟨b, _, rfl⟩ := List.mem_map.1 hu
  rfl

theorem olB_app (a b : List UInt8) : Lib.byteCells (a ++ b) = Lib.byteCells a ++ Lib.byteCells b := by simp [Lib.byteCells]

/-- append of bytes to a row of one's own. -/
theorem wpList_append_u8 {w : World} {ops : Array Oper} {rest : List Oper} {o : Oper} {a : Act} {Q : Exit → Act → World → Prop} (hgd : o.guard = none) (s x : Operand) (t : TypeId) (ht : Tryz.prog.underlying t = some (.slice 5))
    (ho : o.op = .call { callee := .builtin .append, args := #[s, x], argTypes := #[t, t] }) (base : Nat) (v : Value) (n : Nat) (M : List UInt8) (hs : a.eval s = v) (hown : w.ownsRow base 5 1 v n (Lib.byteCells M))
    (g m c : Nat) (T : List UInt8) (hx : a.eval x = .slice (some ⟨g, 0, none⟩) m c) (hl : T.length = m) (hT : ∀ j u, (Lib.byteCells T)[j]? = some u → w.cell? ((⟨g, 0, none⟩ : Addr).add j) = some u) (hb : n + m ≤ 100000000) (hbase : base ≤ w.heap.size)
    (h : ∀ v' w', w'.ownsRow base 5 1 v' (n + m) (Lib.byteCells (M ++ T)) → w.grownBy w' v.ownBlock → wpList Tryz.prog ops Q rest (a.put o.dst v') w') : wpList Tryz.prog ops Q (o :: rest) a w := by
  obtain ⟨i0, hi, hz0, hz1, hz2⟩ := info_parts Tryz.olU8
  exact wpList_append_own w hgd s x t ho base 5 i0 _ 1 1 ht hi hz0 hz1 hz2 rfl (by decide) v n (Lib.byteCells M) hs hown ⟨g, 0, none⟩ m c (Lib.byteCells T) hx (by rw [Lib.byteCells_length, hl]; omega) hT (bytes_ones T) (by unfold maxLen; omega) (by omega) hbase
    (fun v' w' h1 h2 _ => h v' w' (by rw [olB_app]; exact h1) h2)

theorem u8_own {w : World} {B n : Nat} {v : Value} {xs : List Value} (h : w.ownsRow B 5 1 v n xs) {k : Nat} (hk : v.ownBlock = some k) : B ≤ k := by
  rcases h.2 with ⟨rfl, _⟩ | ⟨g, cap, cur, rfl, hb, hgb, _⟩
  · simp [Value.ownBlock] at hk
  · obtain rfl : g = k := by simpa [Value.ownBlock] using hk
    exact hb

theorem u8_below {w w' : World} {B n : Nat} {v : Value} {xs : List Value} (h : w.ownsRow B 5 1 v n xs) (hb : Below w.heap.size w w') : w'.ownsRow B 5 1 v n xs := by
  refine h.kept (row := Option.none) ⟨hb.os, hb.tape, hb.output, hb.size, fun k hk _ => hb.block k hk⟩ ?_
  cases v.ownBlock with
  | none => exact Or.inl rfl
  | some g => exact Or.inr (fun e => nomatch e)

/-- Bytes that grow, all that was there being kept. -/
structure SB8 (w : World) (v : Value) (M : List UInt8) (W : World) : Prop where
  own : W.ownsRow w.heap.size 5 1 v M.length (Lib.byteCells M)
  bel : Below w.heap.size w W

theorem SB8.next {w W W' : World} {v v' : Value} {M T : List UInt8} {n m : Nat} (h : SB8 w v M W) (hm : T.length = m) (hn : n = M.length) (h1 : W'.ownsRow w.heap.size 5 1 v' (n + m) (Lib.byteCells (M ++ T))) (h2 : (W.alloc (.cells (Lib.byteCells T).toArray 5)).grownBy W' v.ownBlock) : SB8 w v' (M ++ T) W' := by
  subst hm
  subst hn
  have hb := h.bel.alloc h.bel.size (.cells (Lib.byteCells T).toArray 5)
  exact ⟨by rw [List.length_append]; exact h1, olbel_grown hb h2 hb.size (fun k hk => u8_own h.own hk)⟩

/-- string(s) of such a row. -/
theorem u8_conv {w : World} {B : Nat} {v : Value} {M : List UInt8} (h : w.ownsRow B 5 1 v M.length (Lib.byteCells M)) : ∃ a c, v = .slice a M.length c ∧ (convert 59 9 (.slice a M.length c)).run Tryz.prog w = .ok (.string (sB M)) w := by
  have h' := h
  rcases h.2 with ⟨rfl, h0⟩ | ⟨g, cap, cur, rfl, hb, hgb, hr⟩
  · refine ⟨Option.none, 0, by rw [h0], ?_⟩
    have hM : M = [] := List.eq_nil_of_length_eq_zero h0
    subst hM
    exact Lib.run_convert_nil_bytes w 59 9 5 0 Tryz.underlying59 Tryz.underlying5 Tryz.underlying9
  · refine ⟨_, _, rfl, ?_⟩
    have hc : Lib.Bytes w g 0 (sB M) := fun i hi => by
      have hi' : i < M.length := by simpa [sB_size] using hi
      have := h'.cellAt i (by omega)
      rw [Nat.zero_add, this]
      unfold Lib.byteCells
      simp [List.getElem?_eq_getElem hi', sB]
      rfl
    have := Lib.run_convert_whole (P := Tryz.prog) w 59 5 9 Tryz.underlying59 Tryz.underlying5 Tryz.underlying9 g 0 (sB M) hc cap
    rw [sB_size] at this
    exact this

set_option maxRecDepth 100000 in
set_option maxHeartbeats 8000000 in
theorem rshow_any (a : Option Addr) (n c : Nat) (L : List Ln) (w : World) (h : LnS w a n c L) (hL : ∀ x ∈ L, -9223372036854775808 ≤ x.d ∧ x.d ≤ 1000 ∧ x.t.length ≤ 1000) (hn : n ≤ 100) :
    Calls Tryz.prog 19 #[.slice a n c] w fun e w' => e = .returned (.string (sB (showL L))) ∧ Below w.heap.size w w' := by
  have hcap := h.cap
  have HS := hid h
  have HLn := hid h.len
  have HLL := hid hL
  clear h hL
  go_enter Tryz.func19, Tryz.ntmps19
  go_wp2_with fail
  go_loopw [3, 4] (fun s i wr => ∃ k : Nat, k ≤ n ∧ i = .int .i64 k ∧ Hid (SB8 w s (showL (L.take k)) wr)) (fun _ i _ => n - (intOf i).toNat)
  case atStart => exact ⟨0, by omega, rfl, hid ⟨World.ownsRow_nil _ _ _ _, Below.refl _ _⟩⟩
  case round =>
    obtain ⟨k, hk, rfl, HO⟩ := hrel
    by_cases hlt : k < n
    · obtain ⟨g, o, x, rfl, hx, hg, c0, c1, c2, c3⟩ := HS.out.look hlt
      obtain ⟨hd0, hd1, ht⟩ := HLL.out x (List.mem_of_getElem? hx)
      have hk1 : (k : Int) < (n : Int) := by omega
      have hk0 : (0 : Int) ≤ (k : Int) := by omega
      have HTS : Hid (showL (L.take (k + 1)) = showL (L.take k) ++ (List.replicate (2 * x.d.toNat) 32 ++ [45, 32] ++ esc x.t ++ [10])) := hid (by
        obtain ⟨h1, h2⟩ := List.getElem?_eq_some_iff.1 hx
        rw [List.take_succ_eq_append_getElem h1, h2, showL_snoc]
        simp [Ln.sh, lnB])
      have HBND : Hid ((showL (L.take k)).length ≤ 400003 * 100) := hid (by
        have h1 := showL_len (L.take k) (fun y hy => by
          have := HLL.out y (List.mem_of_mem_take hy)
          exact ⟨by omega, by omega⟩)
        rw [List.length_take, HLn.out] at h1
        have : min k n ≤ 100 := by omega
        omega)
      obtain ⟨⟨x1, x2⟩, xd, xt⟩ := x
      simp only at c0 c1 c2 c3 hd0 hd1 ht HTS
      obtain ⟨M0, hM0⟩ : ∃ M0, M0 = showL (L.take k) := ⟨_, rfl⟩
      rw [← hM0] at HO HTS HBND
      have HM0 := hid hM0
      clear hx c0 c1 hM0
      have HC : Hid (∀ W, Below w.heap.size w W → W.cell? ⟨g, o + k * 4 + 2, none⟩ = some (.int .i64 xd) ∧ W.cell? ⟨g, o + k * 4 + 3, none⟩ = some (.string ⟨xt.toArray⟩)) := hid (fun W hW => ⟨by rw [hW.cell (p := ⟨g, o + k * 4 + 2, none⟩) hg]; exact c2, by rw [hW.cell (p := ⟨g, o + k * 4 + 3, none⟩) hg]; exact c3⟩)
      clear c2 c3 hg
      go_wp2_with fail
      go_loopw [3, 5] (fun s d wr => ∃ j : Nat, (j : Int) ≤ max xd 0 ∧ d = .int .i64 j ∧ Hid (SB8 w s (M0 ++ List.replicate (2 * j) 32) wr)) (fun _ d _ => xd.toNat - (intOf d).toNat)
      case atStart => exact ⟨0, by omega, rfl, hid (by simpa using HO.out)⟩
      case round =>
        obtain ⟨j, hj, rfl, HJ⟩ := hrel
        obtain ⟨c2, c3⟩ := HC.out _ HJ.out.bel
        by_cases hjd : (j : Int) < xd
        · have hbj : decide ((j : Int) < xd) = true := by simp [hjd]
          have hj1000 : (j : Int) ≤ 1000 := by omega
          obtain ⟨MJ, hMJ⟩ : ∃ MJ, MJ = M0 ++ List.replicate (2 * j) 32 := ⟨_, rfl⟩
          rw [← hMJ] at HJ
          have HEMJ := hid hMJ
          obtain ⟨nMJ, hnMJ⟩ : ∃ nMJ, nMJ = MJ.length := ⟨_, rfl⟩
          have HLMJ := hid hnMJ
          have hbMJ : nMJ ≤ 50000000 := by rw [hnMJ, hMJ]; rw [List.length_append, List.length_replicate]; have := HBND.out; omega
          clear hMJ hnMJ
          have hownW5 := hid (show (wr.alloc (.cells #[.int .u8 32, .int .u8 32] 5)).ownsRow w.heap.size 5 1 u3 nMJ (Lib.byteCells MJ) from by rw [HLMJ.out]; exact u8_below HJ.out.own ((Below.refl _ wr).alloc (Nat.le_refl _) _))
          have hnewW5 := hid (show ∀ j u, (Lib.byteCells [32, 32])[j]? = some u → (wr.alloc (.cells #[.int .u8 32, .int .u8 32] 5)).cell? ((⟨wr.heap.size, 0, none⟩ : Addr).add j) = some u from new_bytes wr [32, 32])
          have hszW5 : w.heap.size ≤ (wr.alloc (.cells #[.int .u8 32, .int .u8 32] 5)).heap.size := by rw [World.size_alloc]; have := HJ.out.bel.size; omega
          go_wp2_with (at_builtin; refine wpList_append_u8 rfl _ _ 59 Tryz.underlying59 rfl w.heap.size u3 nMJ MJ rfl hownW5.out wr.heap.size 2 2 [32, 32] rfl rfl hnewW5.out (by omega) hszW5 ?_; rintro v5 W5 hoW5 hgW5; have H5 := hid (SB8.next (T := [32, 32]) HJ.out rfl HLMJ.out hoW5 hgW5); clear hoW5 hgW5)
          clear hownW5 hnewW5 hszW5
          go_roundw
          case rel =>
            refine ⟨j + 1, by omega, by go_num, hid ?_⟩
            have := H5.out
            rw [HEMJ.out, List.append_assoc] at this
            have e : List.replicate (2 * j) (32 : UInt8) ++ [32, 32] = List.replicate (2 * (j + 1)) 32 := by
              show List.replicate (2 * j) (32 : UInt8) ++ List.replicate 2 32 = _
              rw [List.replicate_append_replicate]
              rfl
            rw [e] at this
            exact this
          case measure => simp [intOf]; omega
        · have hbj : decide ((j : Int) < xd) = false := by simp; omega
          have hjx : j = xd.toNat := by omega
          rw [hjx] at HJ
          have HJX := hid hjx
          clear hjx
          obtain ⟨MA, hMA⟩ : ∃ MA, MA = M0 ++ List.replicate (2 * xd.toNat) 32 := ⟨_, rfl⟩
          rw [← hMA] at HJ
          have HEMA := hid hMA
          obtain ⟨nMA, hnMA⟩ : ∃ nMA, nMA = MA.length := ⟨_, rfl⟩
          have HLMA := hid hnMA
          have hbMA : nMA ≤ 50000000 := by rw [hnMA, hMA]; rw [List.length_append, List.length_replicate]; have := HBND.out; omega
          clear hMA hnMA
          have hownW6 := hid (show (wr.alloc (.cells #[.int .u8 45, .int .u8 32] 5)).ownsRow w.heap.size 5 1 u3 nMA (Lib.byteCells MA) from by rw [HLMA.out]; exact u8_below HJ.out.own ((Below.refl _ wr).alloc (Nat.le_refl _) _))
          have hnewW6 := hid (show ∀ j u, (Lib.byteCells [45, 32])[j]? = some u → (wr.alloc (.cells #[.int .u8 45, .int .u8 32] 5)).cell? ((⟨wr.heap.size, 0, none⟩ : Addr).add j) = some u from new_bytes wr [45, 32])
          have hszW6 : w.heap.size ≤ (wr.alloc (.cells #[.int .u8 45, .int .u8 32] 5)).heap.size := by rw [World.size_alloc]; have := HJ.out.bel.size; omega
          go_upto_region 10 with (at_builtin; refine wpList_append_u8 rfl _ _ 59 Tryz.underlying59 rfl w.heap.size u3 nMA MA rfl hownW6.out wr.heap.size 2 2 [45, 32] rfl rfl hnewW6.out (by omega) hszW6 ?_; rintro v6 W6 hoW6 hgW6; have H6 := hid (SB8.next (T := [45, 32]) HJ.out rfl HLMA.out hoW6 hgW6); clear hoW6 hgW6)
          clear hownW6 hnewW6 hszW6
          obtain ⟨MB, hMB⟩ : ∃ MB, MB = MA ++ [45, 32] := ⟨_, rfl⟩
          rw [← hMB] at H6
          have HEMB := hid hMB
          obtain ⟨nMB, hnMB⟩ : ∃ nMB, nMB = MB.length := ⟨_, rfl⟩
          have HLMB := hid hnMB
          have hbMB : nMB ≤ 60000000 := by rw [hnMB, hMB]; rw [List.length_append, ← HLMA.out]; simp; omega
          clear hMB hnMB
          go_wp2_with fail
          have hxl : xt.toArray.size = xt.length := by simp
          have HXL := hid hxl
          clear hxl
          go_loopw [3, 6] (fun s i wr => ∃ q : Nat, q ≤ xt.length ∧ i = .int .i64 q ∧ Hid (SB8 w s (MB ++ esc (xt.take q)) wr)) (fun _ i _ => xt.length - (intOf i).toNat)
          case atStart => exact ⟨0, by omega, rfl, hid (by rw [List.take_zero]; show SB8 w v6 (MB ++ []) W6; rw [List.append_nil]; exact H6.out)⟩
          case round =>
            obtain ⟨q, hq, rfl, HQ⟩ := hrel
            obtain ⟨d2, d3⟩ := HC.out _ HQ.out.bel
            by_cases hql : q < xt.length
            · have hbq : decide ((q : Int) < (xt.length : Int)) = true := by simp [hql]
              have hq0 : (0 : Int) ≤ (q : Int) := by omega
              have hq1 : (q : Int) < (xt.length : Int) := by omega
              have HTK : Hid (∀ b : UInt8, xt[q]'hql = b → esc (xt.take (q + 1)) = esc (xt.take q) ++ (if b = 92 then [92, 92] else if b = 10 then [92, 110] else [b])) := hid (fun b hb => by
                rw [List.take_succ_eq_append_getElem hql, hb]
                unfold esc
                rw [List.flatMap_append]
                simp)
              go_upto_region 14 with fail
              generalize hby : ((⟨xt.toArray⟩ : ByteArray)[q]'(by show q < xt.toArray.size; simpa using hql)) = b
              have HTB := hid (HTK.out b (by rw [← hby]; rfl))
              clear hby HTK
              obtain ⟨MC, hMC⟩ : ∃ MC, MC = MB ++ esc (xt.take q) := ⟨_, rfl⟩
              rw [← hMC] at HQ
              have HEMC := hid hMC
              obtain ⟨nMC, hnMC⟩ : ∃ nMC, nMC = MC.length := ⟨_, rfl⟩
              have HLMC := hid hnMC
              have hbMC : nMC ≤ 70000000 := by rw [hnMC, hMC]; rw [List.length_append, ← HLMB.out]; have h1 := esc_len (xt.take q); have h2 := List.length_take_le q xt; omega
              clear hMC hnMC
              by_cases h92 : b = 92
              · subst h92
                have HTE : Hid (esc (xt.take (q + 1)) = esc (xt.take q) ++ [92, 92]) := hid (by rw [HTB.out]; rfl)
                clear HTB
                have hownW7 := hid (show (wr.alloc (.cells #[.int .u8 92, .int .u8 92] 5)).ownsRow w.heap.size 5 1 u3 nMC (Lib.byteCells MC) from by rw [HLMC.out]; exact u8_below HQ.out.own ((Below.refl _ wr).alloc (Nat.le_refl _) _))
                have hnewW7 := hid (show ∀ j u, (Lib.byteCells [92, 92])[j]? = some u → (wr.alloc (.cells #[.int .u8 92, .int .u8 92] 5)).cell? ((⟨wr.heap.size, 0, none⟩ : Addr).add j) = some u from new_bytes wr [92, 92])
                have hszW7 : w.heap.size ≤ (wr.alloc (.cells #[.int .u8 92, .int .u8 92] 5)).heap.size := by rw [World.size_alloc]; have := HQ.out.bel.size; omega
                go_wp2_with (at_builtin; refine wpList_append_u8 rfl _ _ 59 Tryz.underlying59 rfl w.heap.size u3 nMC MC rfl hownW7.out wr.heap.size 2 2 [92, 92] rfl rfl hnewW7.out (by omega) hszW7 ?_; rintro v7 W7 hoW7 hgW7; have H7 := hid (SB8.next (T := [92, 92]) HQ.out rfl HLMC.out hoW7 hgW7); clear hoW7 hgW7)
                clear hownW7 hnewW7 hszW7
                go_roundw
                case rel =>
                  refine ⟨q + 1, by omega, by go_num, hid ?_⟩
                  have := H7.out
                  rw [HEMC.out, List.append_assoc] at this
                  rw [HTE.out]
                  exact this
                case measure => simp [intOf]; omega
              · have hn92 : (b.toNat : Int) ≠ 92 := fun e => h92 (UInt8.toNat_inj.1 (by simpa using (show b.toNat = 92 by omega)))
                have c92 : (((b.toNat : Nat) : Int) == 92) = false := by simpa using hn92
                by_cases h10 : b = 10
                · subst h10
                  have HTE : Hid (esc (xt.take (q + 1)) = esc (xt.take q) ++ [92, 110]) := hid (by rw [HTB.out]; rfl)
                  clear HTB h92 hn92 c92
                  have hownW8 := hid (show (wr.alloc (.cells #[.int .u8 92, .int .u8 110] 5)).ownsRow w.heap.size 5 1 u3 nMC (Lib.byteCells MC) from by rw [HLMC.out]; exact u8_below HQ.out.own ((Below.refl _ wr).alloc (Nat.le_refl _) _))
                  have hnewW8 := hid (show ∀ j u, (Lib.byteCells [92, 110])[j]? = some u → (wr.alloc (.cells #[.int .u8 92, .int .u8 110] 5)).cell? ((⟨wr.heap.size, 0, none⟩ : Addr).add j) = some u from new_bytes wr [92, 110])
                  have hszW8 : w.heap.size ≤ (wr.alloc (.cells #[.int .u8 92, .int .u8 110] 5)).heap.size := by rw [World.size_alloc]; have := HQ.out.bel.size; omega
                  go_wp2_with (at_builtin; refine wpList_append_u8 rfl _ _ 59 Tryz.underlying59 rfl w.heap.size u3 nMC MC rfl hownW8.out wr.heap.size 2 2 [92, 110] rfl rfl hnewW8.out (by omega) hszW8 ?_; rintro v8 W8 hoW8 hgW8; have H8 := hid (SB8.next (T := [92, 110]) HQ.out rfl HLMC.out hoW8 hgW8); clear hoW8 hgW8)
                  clear hownW8 hnewW8 hszW8
                  go_roundw
                  case rel =>
                    refine ⟨q + 1, by omega, by go_num, hid ?_⟩
                    have := H8.out
                    rw [HEMC.out, List.append_assoc] at this
                    rw [HTE.out]
                    exact this
                  case measure => simp [intOf]; omega
                · have hn10 : (b.toNat : Int) ≠ 10 := fun e => h10 (UInt8.toNat_inj.1 (by simpa using (show b.toNat = 10 by omega)))
                  have c10 : (((b.toNat : Nat) : Int) == 10) = false := by simpa using hn10
                  have HTE : Hid (esc (xt.take (q + 1)) = esc (xt.take q) ++ [b]) := hid (by rw [HTB.out, if_neg h92, if_neg h10])
                  clear HTB h92 h10
                  have hownW9 := hid (show (wr.alloc (.cells #[.int .u8 b.toNat] 5)).ownsRow w.heap.size 5 1 u3 nMC (Lib.byteCells MC) from by rw [HLMC.out]; exact u8_below HQ.out.own ((Below.refl _ wr).alloc (Nat.le_refl _) _))
                  have hnewW9 := hid (show ∀ j u, (Lib.byteCells [b])[j]? = some u → (wr.alloc (.cells #[.int .u8 b.toNat] 5)).cell? ((⟨wr.heap.size, 0, none⟩ : Addr).add j) = some u from new_bytes wr [b])
                  have hszW9 : w.heap.size ≤ (wr.alloc (.cells #[.int .u8 b.toNat] 5)).heap.size := by rw [World.size_alloc]; have := HQ.out.bel.size; omega
                  go_wp2_with (at_builtin; refine wpList_append_u8 rfl _ _ 59 Tryz.underlying59 rfl w.heap.size u3 nMC MC rfl hownW9.out wr.heap.size 1 1 [b] rfl rfl hnewW9.out (by omega) hszW9 ?_; rintro v9 W9 hoW9 hgW9; have H9 := hid (SB8.next (T := [b]) HQ.out rfl HLMC.out hoW9 hgW9); clear hoW9 hgW9)
                  clear hownW9 hnewW9 hszW9
                  go_roundw
                  case rel =>
                    refine ⟨q + 1, by omega, by go_num, hid ?_⟩
                    have := H9.out
                    rw [HEMC.out, List.append_assoc] at this
                    rw [HTE.out]
                    exact this
                  case measure => simp [intOf]; omega
            · have hbq : decide ((q : Int) < (xt.length : Int)) = false := by simp; omega
              have HTA : Hid (xt.take q = xt) := hid (List.take_of_length_le (by omega))
              obtain ⟨MD, hMD⟩ : ∃ MD, MD = MB ++ esc (xt.take q) := ⟨_, rfl⟩
              rw [← hMD] at HQ
              have HEMD := hid hMD
              obtain ⟨nMD, hnMD⟩ : ∃ nMD, nMD = MD.length := ⟨_, rfl⟩
              have HLMD := hid hnMD
              have hbMD : nMD ≤ 70000000 := by rw [hnMD, hMD]; rw [List.length_append, ← HLMB.out]; have h1 := esc_len (xt.take q); have h2 := List.length_take_le q xt; omega
              clear hMD hnMD
              have hownWA := hid (show (wr.alloc (.cells #[.int .u8 10] 5)).ownsRow w.heap.size 5 1 u3 nMD (Lib.byteCells MD) from by rw [HLMD.out]; exact u8_below HQ.out.own ((Below.refl _ wr).alloc (Nat.le_refl _) _))
              have hnewWA := hid (show ∀ j u, (Lib.byteCells [10])[j]? = some u → (wr.alloc (.cells #[.int .u8 10] 5)).cell? ((⟨wr.heap.size, 0, none⟩ : Addr).add j) = some u from new_bytes wr [10])
              have hszWA : w.heap.size ≤ (wr.alloc (.cells #[.int .u8 10] 5)).heap.size := by rw [World.size_alloc]; have := HQ.out.bel.size; omega
              go_wp2_with (at_builtin; refine wpList_append_u8 rfl _ _ 59 Tryz.underlying59 rfl w.heap.size u3 nMD MD rfl hownWA.out wr.heap.size 1 1 [10] rfl rfl hnewWA.out (by omega) hszWA ?_; rintro vA WA hoWA hgWA; have HA := hid (SB8.next (T := [10]) HQ.out rfl HLMD.out hoWA hgWA); clear hoWA hgWA)
              clear hownWA hnewWA hszWA
              go_roundw
              case rel =>
                refine ⟨k + 1, by omega, by go_num, hid ?_⟩
                have := HA.out
                rw [HEMD.out, HEMB.out, HEMA.out, HTA.out] at this
                rw [HTS.out]
                simpa [List.append_assoc] using this
              case measure => simp [intOf]; omega
    · obtain rfl : k = n := by omega
      have HF : Hid (SB8 w u3 (showL L) wr) := hid (by
        have := HO.out
        rw [List.take_of_length_le (by rw [HLn.out]; exact Nat.le_refl _)] at this
        exact this)
      obtain ⟨a3, c3, hv3, hconv⟩ := u8_conv HF.out.own
      subst hv3
      have HBL := hid HF.out.bel
      clear HF HO
      go_wp2
      go_ret
      exact ⟨rfl, HBL.out⟩
end

section
set_option linter.unusedVariables false
open Go.Shelf Go.RowKit

set_option maxRecDepth 100000 in
set_option maxHeartbeats 2000000 in
theorem show_any (a : Option Addr) (n c : Nat) (L : List Ln) (m : Int) (w : World) (hs : LnS w a n c L) (hL : ∀ x ∈ L, -9223372036854775808 ≤ x.d ∧ x.d ≤ 100000 ∧ x.t.length ≤ 100000) (hn : n ≤ 1000) (hm : w.cell? ⟨0, 0, none⟩ = some (.int .i64 m)) (h0 : 0 < w.heap.size) :
    Calls Tryz.prog 18 #[.slice a n c] w fun e w' => e = .returned (.string (sB (showL L))) ∧ Below w.heap.size w w' := by
  have hlen := hs.len
  have hcap := hs.cap
  go_enter Tryz.func18, Tryz.ntmps18
  go_wp2
  go_loopw [8] (fun i wr => ∃ k : Nat, k ≤ n ∧ i = .int .i64 k ∧ Bld w.heap.size w.heap.size (Lib.byteCells (showL (L.take k))) wr ∧ Below w.heap.size w wr) (fun i _ => n - (intOf i).toNat)
  case atStart => exact ⟨0, by omega, rfl, new_bld w, (Below.refl _ w).alloc (Nat.le_refl _) _⟩
  case round =>
    obtain ⟨k, hk, rfl, hb, hB⟩ := hrel
    by_cases hlt : k < n
    · have hkl : k < L.length := by omega
      obtain ⟨g, o, rfl, hg, hcell⟩ := (hs.below hB).at_ (by omega)
      have hX := hcell k hkl
      have hLk := hL _ (List.getElem_mem hkl)
      have hts := hid (List.take_succ_eq_append_getElem hkl)
      have hsl := showL_len (L.take k) (fun y hy => (hL y (List.mem_of_mem_take hy)).2)
      rw [List.length_take, Nat.min_eq_left (by omega)] at hsl
      generalize L[k] = x at *
      obtain ⟨⟨x1, x2⟩, xd, xt⟩ := x
      have c0 := hX 0 _ rfl
      have c1 := hX 1 _ rfl
      have c2 := hX 2 _ rfl
      have c3 := hX 3 _ rfl
      simp only [Nat.add_zero] at c0 c1 c2 c3 hLk
      clear hX hcell hL
      go_upto_region 5 with fail
      obtain ⟨W1, hW1⟩ : ∃ W1, W1 = wr.alloc (.cells #[.int .i64 x1, .int .i64 x2, .int .i64 xd, .string ⟨xt.toArray⟩] 54) := ⟨_, rfl⟩
      have hW1b : Below wr.heap.size wr W1 := by rw [hW1]; exact (Below.refl _ wr).alloc (Nat.le_refl _) _
      have hsz1 : W1.heap.size = wr.heap.size + 1 := by rw [hW1]; simp
      have hbk : W1.heap[wr.heap.size]? = some (.cells #[.int .i64 x1, .int .i64 x2, .int .i64 xd, .string ⟨xt.toArray⟩] 54 (0, 0)) := by rw [hW1]; exact World.alloc_heap_new wr _
      have hb1 := bld_below hb hW1b
      rw [← hW1]
      clear hW1
      have hlb := Lib.byteCells_length (showL (L.take k))
      have d2 : ∀ q, (W1.drewN q).cell? ⟨wr.heap.size, 2, none⟩ = some (.int .i64 xd) := fun _ => by show W1.cell? _ = _; rw [Lib.cell_of_heap hbk]; rfl
      have d20 : W1.cell? ⟨wr.heap.size, 2, none⟩ = some (.int .i64 xd) := d2 0
      have hLe : ∀ q, Calls Tryz.prog 44 #[.pointer (some ⟨w.heap.size, 0, none⟩)] (W1.drewN q) fun e w' => e = .returned (.int .i64 (Lib.byteCells (showL (L.take k))).length) ∧ w' = W1.drewN q := fun q => bld_len w.heap.size w.heap.size _ (W1.drewN q) hb1
      rw [hlb] at hLe
      obtain ⟨sl, hslq⟩ : ∃ sl, sl = (showL (L.take k)).length := ⟨_, rfl⟩
      rw [← hslq] at hLe hsl hlb
      have HSL := hid hslq
      clear hslq
      have hcmp : decide ((2147483647 - (sl : Int)) / 2 < xd) = false := by
        simp
        omega
      go_wp2_with fail
      go_quiet (first | (go_at_call 44; exact Calls.quiet_of_same (hLe _)))
      have hB1 : Below w.heap.size w W1 := hB.trans (hW1b.mono hB.size)
      have hbq : Bld w.heap.size w.heap.size (Lib.byteCells (showL (L.take k))) (W1.drewN nq) := hb1
      have hBq : Below w.heap.size w (W1.drewN nq) := hB1.trans (((Far.refl W1).drewN nq).below.mono hB1.size)
      have hbkq : (W1.drewN nq).heap[wr.heap.size]? = some (.cells #[.int .i64 x1, .int .i64 x2, .int .i64 xd, .string ⟨xt.toArray⟩] 54 (0, 0)) := hbk
      have hltq : wr.heap.size < (W1.drewN nq).heap.size := by show _ < W1.heap.size; omega
      generalize W1.drewN nq = W2 at *
      have e2 : W2.cell? ⟨wr.heap.size, 2, none⟩ = some (.int .i64 xd) := by rw [Lib.cell_of_heap hbkq]; rfl
      have e3 : W2.cell? ⟨wr.heap.size, 3, none⟩ = some (.string ⟨xt.toArray⟩) := by rw [Lib.cell_of_heap hbkq]; rfl
      obtain ⟨D, hD⟩ : ∃ D : Nat, D = xd.toNat := ⟨_, rfl⟩
      have HMX : Hid (max xd 0 = (D : Int)) := hid (by omega)
      have hDl : D ≤ 100000 := by omega
      have HD := hid hD
      clear hD hLe d2 d20 hbk
      have hne : wr.heap.size ≠ w.heap.size := by
        have h1 := hB.size
        have h2 : w.heap.size < wr.heap.size := by
          rcases hb with ⟨_, v, h, _⟩ | ⟨_, v, h, _⟩ <;> exact (Array.getElem?_eq_some_iff.1 h).1
        omega
      have kp : ∀ X Y : World, X.heap[wr.heap.size]? = some (.cells #[.int .i64 x1, .int .i64 x2, .int .i64 xd, .string ⟨xt.toArray⟩] 54 (0, 0)) → Lib.OthersKept 5 (some w.heap.size) X Y → Y.heap[wr.heap.size]? = some (.cells #[.int .i64 x1, .int .i64 x2, .int .i64 xd, .string ⟨xt.toArray⟩] 54 (0, 0)) := fun X Y h1 h2 => h2 _ _ h1 (fun e => hne (by first | exact Option.some.inj e | exact (Option.some.inj e).symm | exact e)) (fun c' fz' e => by cases e)
      have hel := esc_len xt
      obtain ⟨S0, hS0⟩ : ∃ S0, S0 = Lib.byteCells (showL (L.take k)) := ⟨_, rfl⟩
      have HS0 := hid hS0
      rw [← hS0] at hbq hlb
      obtain ⟨sp, hsp⟩ : ∃ sp, sp = sB (List.replicate (2 * D) 32) := ⟨_, rfl⟩
      have HSP := hid hsp
      have hspl : sp.size ≤ 2 * D := by rw [hsp, sB_size, List.length_replicate]; exact Nat.le_refl _
      obtain ⟨xe, hxe⟩ : ∃ xe, xe = sB (esc xt) := ⟨_, rfl⟩
      have HXE := hid hxe
      have hxel : xe.size ≤ 2 * xt.length := by rw [hxe, sB_size]; exact hel
      have HREP : ∀ W, Calls Tryz.prog 46 #[.string ⟨#[32, 32]⟩, .int .i64 D] W fun e w' => e = .returned (.string sp) ∧ Below W.heap.size W w' := fun W => by
        have := repeat_any [32, 32] D W (by omega) (by decide)
        rw [rep_two, ← hsp] at this
        exact this
      have HESC : ∀ W, W.cell? ⟨0, 0, none⟩ = some (.int .i64 m) → 0 < W.heap.size → Calls Tryz.prog 47 #[.string ⟨xt.toArray⟩] W fun e w' => e = .returned (.string xe) ∧ Below W.heap.size W w' := fun W h1 h2 => by
        have := escaped_any xt m W (by omega) h1 h2
        rw [← hxe] at this
        exact this
      clear hsp hxe hS0
      go_upto_region 8 with (first
        | (go_at_call 46; rw [HMX.out]; refine (HREP _).mono ?_; rintro e w3 ⟨rfl, hB3⟩; have hb3 := bld_below hbq hB3; have hBw3 := hBq.trans (hB3.mono hBq.size); have hk3 := (hB3.block _ hltq).trans hbkq)
        | (go_at_call 45; refine (write_string w.heap.size w.heap.size S0 sp w3 hb3 (by omega) hBw3.size).mono ?_; rintro e w4 ⟨rfl, hb4, hB4, hK4⟩; have hk4 := kp _ _ hk3 hK4; have hBw4 := hBw3.trans hB4))
      obtain ⟨S1, hS1⟩ : ∃ S1, S1 = S0 ++ Lib.strCells sp := ⟨_, rfl⟩
      have HS1 := hid hS1
      have hl1 : S1.length ≤ sl + 2 * D := by rw [hS1, List.length_append, Lib.strCells_length]; omega
      rw [← hS1] at hb4
      clear hS1 hb3 hB3 hB4 hK4 hk3 hbq
      go_upto_region 9 with (go_at_call 45; refine (write_string w.heap.size w.heap.size S1 ⟨#[45, 32]⟩ w4 (Or.inr hb4) (by show S1.length + 2 ≤ _; omega) hBw4.size).mono ?_; rintro e w5 ⟨rfl, hb5, hB5, hK5⟩)
      have hk5 := kp _ _ hk4 hK5
      have hBw5 := hBw4.trans hB5
      have e5 : w5.cell? ⟨wr.heap.size, 3, none⟩ = some (.string ⟨xt.toArray⟩) := by rw [Lib.cell_of_heap hk5]; rfl
      have hm5 : w5.cell? ⟨0, 0, none⟩ = some (.int .i64 m) := by rw [hBw5.cell (by simpa using h0)]; exact hm
      obtain ⟨S2, hS2⟩ : ∃ S2, S2 = S1 ++ Lib.strCells ⟨#[45, 32]⟩ := ⟨_, rfl⟩
      have HS2 := hid hS2
      have hl2 : S2.length ≤ sl + 2 * D + 2 := by rw [hS2, List.length_append]; exact Nat.add_le_add_right hl1 2
      rw [← hS2] at hb5
      have hz5 : 0 < w5.heap.size := by have := hBw5.size; omega
      clear hS2 hb4 hB5 hK5 hk4
      go_upto_region 10 with (first
        | (go_at_call 47; refine (HESC w5 hm5 hz5).mono ?_; rintro e w6 ⟨rfl, hB6⟩; have hb6 := bld_below (Or.inr hb5) hB6; have hBw6 := hBw5.trans (hB6.mono hBw5.size))
        | (go_at_call 45; refine (write_string w.heap.size w.heap.size S2 xe w6 hb6 (by omega) hBw6.size).mono ?_; rintro e w7 ⟨rfl, hb7, hB7, hK7⟩))
      have hBw7 := hBw6.trans hB7
      obtain ⟨S3, hS3⟩ : ∃ S3, S3 = S2 ++ Lib.strCells xe := ⟨_, rfl⟩
      have HS3 := hid hS3
      have hl3 : S3.length ≤ sl + 2 * D + 2 + 2 * xt.length := by rw [hS3, List.length_append, Lib.strCells_length]; omega
      rw [← hS3] at hb7
      clear hS3 hb5 hb6 hB6 hB7 hK7
      go_wp2_with (go_at_call 48; refine (write_byte w.heap.size w.heap.size S3 10 w7 (Or.inr hb7) (by omega) hBw7.size).mono ?_; rintro e w8 ⟨rfl, hb8, hB8, hK8⟩; have hBw8 := hBw7.trans hB8)
      go_roundw
      case rel =>
        refine ⟨k + 1, by omega, by go_num, ?_, hBw8⟩
        rw [hts.out, showL_snoc]
        have e : Lib.byteCells (showL (L.take k) ++ Ln.sh ⟨(x1, x2), xd, xt⟩) = S3 ++ [.int .u8 10] := by
          rw [HS3.out, HS2.out, HS1.out, HS0.out, HSP.out, HXE.out]
          simp only [strCells_sB, Ln.sh, lnB, HD.out, Lib.byteCells, List.map_append, List.map_cons, List.map_nil, List.append_assoc, List.cons_append, List.nil_append]
          rfl
        rw [e]
        exact Or.inr hb8
      case measure => simp [intOf]; omega
    · obtain rfl : k = n := by omega
      have hB0 := hB
      rw [← hlen, List.take_length] at hb
      go_wp2_with (go_at_call 49; refine (bld_string w.heap.size w.heap.size (showL L) _ hb hB.size).mono ?_; rintro e w3 ⟨rfl, _, hB3, _⟩)
      go_ret
      exact ⟨rfl, hB.trans hB3⟩
end

section
open Go.RowKit Go.Sort Go.Maps

/-- Where each dot stands first. -/
def pl (L : List Dt) (d : Dt) : Option Int := if d ∈ L then some (L.idxOf d : Int) else Option.none
end
end Go.Proofs.YtnmdcdphpcpojaaGreatDoor
