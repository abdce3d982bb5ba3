/- Rows of keys: rising, what it makes, Row. -/
import Derived.Test.YtbjeienmhglddaaKCalls
namespace Go.Proofs.Ytbjeienmhglddaa
open Go.RowKit

theorem cell_in {w : World} {p : Addr} {v : Value} (h : w.cell? p = some v) : p.block < w.heap.size := by
  rcases Nat.lt_or_ge p.block w.heap.size with hlt | hge
  · exact hlt
  · simp [World.cell?, Array.getElem?_eq_none hge] at h

/-- Of the blocks that were there block b alone may have turned; there may be new ones. -/
structure Upon (b : Nat) (w w' : World) : Prop where
  os : w'.os = w.os
  tape : w'.tape = w.tape
  output : w'.output = w.output
  size : w.heap.size ≤ w'.heap.size
  block : ∀ k, k < w.heap.size → k ≠ b → w'.heap[k]? = w.heap[k]?
theorem Upon.below {b B : Nat} {w w' : World} (h : Upon b w w') (hb : B ≤ b) (hB : B ≤ w.heap.size) : RowKit.Below B w w' :=
  ⟨h.os, h.tape, h.output, h.size, fun i hi => h.block i (by omega) (by omega)⟩
theorem setCell_other (w : World) (g i k : Nat) (v : Value) (h : k ≠ g) : (w.setCell ⟨g, i, none⟩ v).heap[k]? = w.heap[k]? := by
  simp [World.setCell, Array.getElem?_modify, Ne.symm h]
theorem Upon.of {b : Nat} {w w' : World} (h : RowKit.Below w.heap.size w w') (v : Value) : Upon b w (w'.setCell ⟨b, 0, none⟩ v) :=
  ⟨h.os, h.tape, h.output, by simpa using h.size, fun k hk hne => (setCell_other w' b 0 k v hne).trans (h.block k hk)⟩

/-- What the closure remembers: the last key in block g, the bound in block h. -/
structure Nx (w : World) (g h : Nat) (a b : ByteArray) : Prop where
  c1 : w.cell? ⟨g, 0, none⟩ = some (.string a)
  f1 : w.frozen? ⟨g, 0, none⟩ = false
  c2 : w.cell? ⟨h, 0, none⟩ = some (.string b)
  ne : g ≠ h
theorem Nx.below {w w' : World} {g h B : Nat} {a b : ByteArray} (k : Nx w g h a b) (hb : Below B w w') (hg : g < B) (hh : h < B) : Nx w' g h a b :=
  ⟨(hb.cell (p := ⟨g, 0, none⟩) hg).trans k.c1, (hb.frozen (p := ⟨g, 0, none⟩) hg).trans k.f1, (hb.cell (p := ⟨h, 0, none⟩) hh).trans k.c2, k.ne⟩

theorem rising_any (a b : ByteArray) (w : World) : Calls Try.prog 21 #[.string a, .string b] w fun e w' => e = .returned (.func (.func 23) #[] #[.pointer (some ⟨w.heap.size + 1, 0, none⟩), .pointer (some ⟨w.heap.size, 0, none⟩)]) ∧ Nx w' (w.heap.size + 1) w.heap.size a b ∧ Below w.heap.size w w' := by
  have hmf : ∀ (fn : Fn) (first cap : Array Value) (w : World), (Instr.makeFunc fn first cap).run Try.prog w = .ok (.func fn first cap) w := fun _ _ _ _ => rfl
  go_enter Try.func21, Try.ntmps21
  go_wp2
  go_ret
  refine ⟨rfl, ⟨?_, ?_, ?_, by omega⟩, ?_⟩
  · go_simp
  · go_simp
  · go_simp
  · exact ((Below.refl _ _).alloc (Nat.le_refl _) _).alloc (by simp) _

set_option maxHeartbeats 1000000 in
theorem next_any {a b k : ByteArray} {x : Int} {w : World} {g h : Nat} (hn : Nx w g h a b) (hk : k.toList = btw a.toList b.toList) (hx : er (btw a.toList b.toList) = x) (ha : a.size ≤ maxLen) (hb : b.size ≤ maxLen) :
    Calls Try.prog 23 #[.pointer (some ⟨g, 0, none⟩), .pointer (some ⟨h, 0, none⟩)] w fun e w' => e = .returned (.tuple #[.string k, .int .i64 x]) ∧ Nx w' g h k b ∧ Upon g w w' := by
  have c := between_is hk hx ha hb w
  clear hk hx
  have l1 := cell_in hn.c1
  have l2 := cell_in hn.c2
  have H := hid hn
  obtain ⟨c1, f1, c2, ne⟩ := hn
  go_enter Try.func23, Try.ntmps23
  go_wp2_with (first
    | (go_at_call 10; refine c.mono ?_; rintro e w1 ⟨rfl, b1⟩; have N1 := H.out.below b1 l1 l2; have q1 := N1.c1; have q2 := N1.f1))
  go_ret2
  refine ⟨rfl, ⟨?_, ?_, ?_, ne⟩, Upon.of b1 _⟩
  · exact World.cell?_setCell_same _ _ _ q1
  · rw [World.frozen?_setCell]; exact q2
  · rw [World.cell?_setCell_other _ _ _ _ (by intro e; exact ne (congrArg Addr.block e))]; exact N1.c2

/-- A row of texts of one's own, in a block from B on. -/
def SR (w : World) (B : Nat) (v : Value) (L : List ByteArray) : Prop := w.ownsRow B 9 1 v L.length (L.map Value.string)
theorem SR.le {w : World} {B B' : Nat} {v : Value} {L : List ByteArray} (h : SR w B v L) (hB : B' ≤ B) : SR w B' v L := by
  obtain ⟨h1, h2⟩ := h
  refine ⟨h1, ?_⟩
  rcases h2 with h2 | ⟨g, cap, cur, q1, q2, q3⟩
  · exact .inl h2
  · exact .inr ⟨g, cap, cur, q1, by omega, q3⟩
theorem SR.same {w w' : World} {B : Nat} {v : Value} {L : List ByteArray} (h : SR w B v L) (hs : ∀ g, B ≤ g → g < w.heap.size → w'.heap[g]? = w.heap[g]?) : SR w' B v L := by
  obtain ⟨h1, h2⟩ := h
  refine ⟨h1, ?_⟩
  rcases h2 with h2 | ⟨g, cap, cur, q1, q2, q3, q4⟩
  · exact .inl h2
  · exact .inr ⟨g, cap, cur, q1, q2, (hs g q2 (Array.getElem?_eq_some_iff.1 q3).1).trans q3, q4⟩
theorem SR.upon {w w' : World} {B b : Nat} {v : Value} {L : List ByteArray} (h : SR w B v L) (hu : Upon b w w') (hb : b < B) : SR w' B v L :=
  h.same fun g h1 h2 => hu.block g h2 (by omega)
theorem SR.below {w w' : World} {B : Nat} {v : Value} {L : List ByteArray} (h : SR w B v L) (hu : Below w.heap.size w w') : SR w' B v L :=
  h.same fun g _ h2 => hu.block g h2
theorem SR.nil (w : World) (B : Nat) : SR w B (.slice none 0 0) [] := ⟨rfl, .inl ⟨rfl, rfl⟩⟩
theorem Try.info9 : (Try.prog.info? 9).map (fun i => (i.zero, i.size, i.bytes)) = some (some (.string { data := #[] }), 1, 16) := by kernel_rfl
theorem grown_below {w w' : World} {v : Value} {B : Nat} (hv : ∀ k, v.ownBlock = some k → B ≤ k) (hB : B ≤ w.heap.size) (h : w.grownBy w' v.ownBlock) : Below B w w' :=
  ⟨h.os, h.tape, h.output, h.size, fun i hi => h.block i (by omega) (fun e => by have := hv i e.symm; omega)⟩

/-- One text is appended to a row of one's own. -/
theorem wl_append {ops : Array Oper} {rest : List Oper} {o : Oper} {a : Act} {w : World} {Q : Exit → Act → World → Prop} (hgd : o.guard = none) (s x : Operand)
    (ho : o.op = .call { callee := .builtin .append, args := #[s, x], argTypes := #[28, 28] }) (B : Nat) (v : Value) (L : List ByteArray) (hs : a.eval s = v) (hL : SR w B v L) (g c : Nat) (k : ByteArray)
    (hx : a.eval x = .slice (some ⟨g, 0, none⟩) 1 c) (hk : w.cell? ⟨g, 0, none⟩ = some (.string k)) (hB : B ≤ w.heap.size) (hlen : L.length ≤ 1000000)
    (h : ∀ v' w', SR w' B v' (L ++ [k]) → Below B w w' → wpList Try.prog ops Q rest (a.put o.dst v') w') : wpList Try.prog ops Q (o :: rest) a w := by
  obtain ⟨i0, hi, hz0, hz1, hz2⟩ := info_parts Try.info9
  refine wpList_append_own w hgd s x 28 ho B 9 i0 (.string { data := #[] }) 1 16 Try.underlying28 hi hz0 hz1 hz2 rfl (by decide) v L.length (L.map Value.string) hs hL ⟨g, 0, none⟩ 1 c [.string k] hx rfl ?_ (by simp [Value.oneCell']) (by unfold maxLen; omega) (by omega) hB ?_
  · intro j u hj
    cases j with
    | zero =>
      simp only [List.getElem?_cons_zero, Option.some.injEq] at hj
      subst hj
      exact hk
    | succ j => simp at hj
  · intro v' w' h1 h2 _
    refine h v' w' ?_ (grown_below (fun k hk => (World.ownsRow.lt hL k hk).1) hB h2)
    unfold SR
    rw [List.map_append, List.length_append]
    exact h1

/-- What a row of so many keys is: the error, and the keys. -/
def rsp (a b : Bs) (n : Int) : Int × List Bs :=
  if n < 0 ∨ 1000 < n then (1, []) else if rtb a b = false then (43, []) else
    match rw_ b n.toNat a with
    | none => (43, [])
    | some l => (0, l)
theorem rsp_arg {a b : Bs} {n : Int} (h : n < 0 ∨ 1000 < n) : rsp a b n = (1, []) := if_pos h
theorem rsp_key {a b : Bs} {n : Int} (h : ¬ (n < 0 ∨ 1000 < n)) (hr : rtb a b = false) : rsp a b n = (43, []) := by
  unfold rsp; rw [if_neg h, if_pos hr]
theorem rsp_full {a b : Bs} {m j : Nat} (h : m ≤ 1000) (hr : rtb a b = true) (h1 : 1 ≤ j) (h2 : j ≤ m) (hj : nth b a j = []) (hi : ∀ i, 1 ≤ i → i < j → nth b a i ≠ []) : rsp a b m = (43, []) := by
  unfold rsp
  rw [if_neg (by omega), if_neg (by rw [hr]; simp), show (m : Int).toNat = m by omega, rw_none b m a j h1 h2 hj hi]
theorem rsp_all {a b : Bs} {m : Nat} (h : m ≤ 1000) (hr : rtb a b = true) (hi : ∀ i, 1 ≤ i → i ≤ m → nth b a i ≠ []) : rsp a b m = (0, (List.range m).map fun j => nth b a (j + 1)) := by
  unfold rsp
  rw [if_neg (by omega), if_neg (by rw [hr]; simp), show (m : Int).toNat = m by omega, rw_all b m a hi]

/-- The rounds of a row, j of them done: the last key, and the row. -/
structure Rds (a b : Bs) (j : Nat) (t : ByteArray) (L : List ByteArray) : Prop where
  last : t.toList = nth b a j
  size : t.size ≤ maxLen
  all : ∀ i, 1 ≤ i → i ≤ j → nth b a i ≠ []
  row : L.map ByteArray.toList = (List.range j).map fun i => nth b a (i + 1)
theorem Rds.len {a b : Bs} {j : Nat} {t : ByteArray} {L : List ByteArray} (h : Rds a b j t L) : L.length = j := by
  have := congrArg List.length h.row
  simpa using this
theorem Rds.start {a : ByteArray} {b : Bs} (ha : a.size ≤ maxLen) : Rds a.toList b 0 a [] := ⟨rfl, ha, fun i h1 h2 => by omega, rfl⟩
theorem Rds.next {a : Bs} {b : ByteArray} {j : Nat} {t k : ByteArray} {L : List ByteArray} (h : Rds a b.toList j t L) (hk : k.toList = btw t.toList b.toList) (hn : btw t.toList b.toList ≠ []) : Rds a b.toList (j + 1) k (L ++ [k]) := by
  have e : k.toList = nth b.toList a (j + 1) := by rw [hk, h.last]; rfl
  refine ⟨e, btw_size hk, fun i h1 h2 => ?_, ?_⟩
  · by_cases hi : i = j + 1
    · subst hi
      rw [← e, hk]; exact hn
    · exact h.all i h1 (by omega)
  · rw [List.map_append, h.row, List.range_succ, List.map_append]
    simp [e]
theorem Rds.full {a b : Bs} {j : Nat} {t : ByteArray} {L : List ByteArray} {m : Nat} (h : Rds a b j t L) (hn : btw t.toList b = []) (hr : rtb a b = true) (hm : m ≤ 1000) (hj : j < m) : rsp a b m = (43, []) :=
  rsp_full hm hr (j := j + 1) (by omega) (by omega) (by rw [h.last] at hn; exact hn) (fun i h1 h2 => h.all i h1 (by omega))
theorem Rds.done {a b : Bs} {t : ByteArray} {L : List ByteArray} {m : Nat} (h : Rds a b m t L) (hr : rtb a b = true) (hm : m ≤ 1000) : rsp a b m = (0, L.map ByteArray.toList) := by
  rw [h.row]; exact rsp_all hm hr h.all

/-- What a call of a row leaves: the error, the row in new memory. -/
def RowOut (w : World) (a b : Bs) (n : Int) (e : Ending) (w' : World) : Prop :=
  ∃ v L, e = .returned (.tuple #[v, .int .i64 (rsp a b n).1]) ∧ SR w' w.heap.size v L ∧ L.map ByteArray.toList = (rsp a b n).2 ∧ Below w.heap.size w w'

set_option maxHeartbeats 2000000 in
set_option maxRecDepth 20000 in
theorem row_any (a b : ByteArray) (n : Int) (w : World) (ha : a.size ≤ maxLen) (hb : b.size ≤ maxLen) :
    Calls Try.prog 14 #[.string a, .string b, .int .i64 n] w fun e w' => RowOut w a.toList b.toList n e w' := by
  by_cases hn : n < 0 ∨ 1000 < n
  · have e := hid (rsp_arg (a := a.toList) (b := b.toList) hn)
    by_cases h0 : n < 0
    · clear hn
      go_enter Try.func14, Try.ntmps14
      go_wp2
      go_ret2
      unfold RowOut; rw [e.out]
      exact ⟨_, [], rfl, SR.nil _ _, rfl, Below.refl _ _⟩
    · have h1 : 1000 < n := by omega
      clear hn
      go_enter Try.func14, Try.ntmps14
      go_wp2
      go_ret2
      unfold RowOut; rw [e.out]
      exact ⟨_, [], rfl, SR.nil _ _, rfl, Below.refl _ _⟩
  have hbd := bounds_any a b w ha hb
  cases hr : rtb a.toList b.toList
  · have e := hid (rsp_key hn hr)
    rw [hr] at hbd
    have h0 : 0 ≤ n := by omega
    have h1 : n ≤ 1000 := by omega
    clear hn hr
    go_enter Try.func14, Try.ntmps14
    go_wp2_with (first
      | (go_at_call 16; refine hbd.mono ?_; rintro e w' ⟨rfl, rfl⟩))
    go_ret2
    unfold RowOut; rw [e.out]
    exact ⟨_, [], rfl, SR.nil _ _, rfl, Below.refl _ _⟩
  rw [hr] at hbd
  obtain ⟨m, rfl⟩ := Int.eq_ofNat_of_zero_le (show 0 ≤ n by omega)
  have hm : m ≤ 1000 := by omega
  have HR := hid hr
  clear hn hr
  have hri := rising_any a b w
  obtain ⟨i0, hi, hz0, hz1, hz2⟩ := info_parts Try.info9
  go_enter Try.func14, Try.ntmps14
  go_wp2_with (first
    | (go_at_call 16; refine hbd.mono ?_; rintro e w' ⟨rfl, rfl⟩)
    | (go_at_call 21; refine hri.mono ?_; rintro e w1 ⟨rfl, n1, b1⟩)
    | (at_make; refine wpList_make_own _ rfl _ _ 28 rfl w1.heap.size 9 i0 (.string { data := #[] }) 1 Try.underlying28 hi hz0 hz1 _ _ _ m rfl rfl rfl (by rw [hz2]; omega) (by unfold maxLen; omega) (Nat.le_refl _) ?_; intro w2 hrow2 hg2))
  have hg1 := cell_in n1.c1
  have hg1' : w.heap.size + 1 < w1.heap.size := hg1
  have bw2 : Below w1.heap.size w1 w2 := (Below.refl _ _).grown hg2 (Nat.le_refl _) (by simp)
  have N2 := hid (n1.below bw2 (by omega) (by omega))
  have R2 : Hid (SR w2 (w.heap.size + 2) (.slice (some ⟨w1.heap.size, 0, none⟩) 0 m) []) := hid (SR.le (B := w1.heap.size) hrow2 (by omega))
  have BB := hid (below2 b1 bw2)
  clear hrow2 hg2 n1 b1 hg1 hri hbd bw2
  go_loopw [28, 9] (fun i v wx => ∃ (j : Nat) (t : ByteArray) (L : List ByteArray), j ≤ m ∧ i = .int .i64 j ∧ Hid (Nx wx (w.heap.size + 1) w.heap.size t b) ∧ Hid (SR wx (w.heap.size + 2) v L) ∧ Hid (Rds a.toList b.toList j t L) ∧ Hid (Below w.heap.size w wx)) (fun i _ _ => m - (intOf i).toNat)
  case atStart => exact ⟨0, a, [], by omega, rfl, N2, R2, hid (Rds.start ha), BB⟩
  case round =>
    obtain ⟨j, t, L, hj, rfl, HN, HS, HD, HB⟩ := hrel
    by_cases hlt : j < m
    · obtain ⟨k, hk⟩ := ex_str (btw t.toList b.toList)
      by_cases hn : btw t.toList b.toList = []
      · have cN := next_any HN.out hk (er_none hn) HD.out.size hb
        have e := hid (HD.out.full hn HR.out hm hlt)
        clear hk hn
        go_wp2_with (first
          | (go_at_call 23; refine cN.mono ?_; rintro e w3 ⟨rfl, n3, b3⟩))
        go_ret2
        unfold RowOut; rw [e.out]
        exact ⟨_, [], rfl, SR.nil _ _, rfl, HB.out.trans (b3.below (by omega) HB.out.size)⟩
      · have cN := next_any HN.out hk (er_some hn) HD.out.size hb
        have HD' := hid (HD.out.next hk hn)
        have hl := HD.out.len
        clear hk hn
        go_wp2_with (first
          | (go_at_call 23; refine cN.mono ?_; rintro e w3 ⟨rfl, n3, b3⟩)
          | (at_builtin; refine wl_append rfl _ _ rfl (w.heap.size + 2) _ L rfl ((HS.out.upon b3 (by omega)).below ((Below.refl _ _).alloc (Nat.le_refl _) _)) w3.heap.size _ k rfl (by go_simp) (by have := cell_in n3.c1; simp at this ⊢; omega) (by omega) ?_; intro v' w4 s4 b4))
        have l3 := cell_in n3.c1
        have l3' : w.heap.size + 1 < w3.heap.size := l3
        have n4 := (n3.below ((Below.refl w3.heap.size w3).alloc (Nat.le_refl _) (.cells #[.string k] 9)) (by omega) (by omega)).below b4 (by omega) (by omega)
        have b5 := HB.out.trans ((b3.below (by omega) HB.out.size).trans (((Below.refl w.heap.size w3).alloc (by omega) (.cells #[.string k] 9)).trans (b4.mono (by omega))))
        go_roundw
        case rel => exact ⟨j + 1, k, L ++ [k], by omega, by go_num, hid n4, hid s4, HD', hid b5⟩
        case measure => simp [intOf]; omega
    · obtain rfl : j = m := by omega
      have e := hid (HD.out.done HR.out hm)
      go_wp2
      go_ret2
      unfold RowOut; rw [e.out]
      exact ⟨_, L, rfl, HS.out.le (by omega), rfl, HB.out⟩
end Go.Proofs.Ytbjeienmhglddaa
