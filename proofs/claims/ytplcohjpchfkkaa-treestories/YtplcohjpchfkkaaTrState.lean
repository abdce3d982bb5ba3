/- The state in memory: the map of places, the map of rows, the rows. No function of the program. -/
import Derived.Test.YtplcohjpchfkkaaVJoin
import Derived.Test.YtplcohjpchfkkaaTrThere
namespace Go.Proofs.Ytplcohjpchfkkaa
section
open Go.RowKit
open Go.Sort (grow)

theorem Try.info3 : (Try.prog.info? 3).map (fun i => (i.zero, i.size, i.bytes)) = some (some (.int .i64 0), 1, 8) := by kernel_rfl

abbrev ints (l : List Int) : List Value := l.map (Value.int .i64)

theorem own_far' {w w' : World} {b e z : Nat} {v : Value} {n : Nat} {xs : List Value} (h : w.ownsRow b e z v n xs) (hf : Far w w') : w'.ownsRow b e z v n xs :=
  h.kept (far_grown hf) (by
    by_cases he : v.ownBlock = none
    · exact .inl he
    · exact .inr he)

/-- Part of the way through both. -/
structure AI (A B : List Dt) (i k : Nat) (l : List Int) : Prop where
  up : l.Pairwise (fun a b => a < b)
  mem : ∀ x, x ∈ l ↔ (∃ d ∈ A.take i, d.1 = x) ∨ (∃ d ∈ B.take k, d.1 = x)
  la : ∀ x ∈ l, ∀ e ∈ A.drop i, x < e.1
  lb : ∀ x ∈ l, ∀ e ∈ B.drop k, x < e.1
  len : l.length ≤ i + k

theorem AI.start (A B : List Dt) : AI A B 0 0 [] := ⟨List.Pairwise.nil, fun x => by simp, fun x hx => by simp at hx, fun x hx => by simp at hx, by simp⟩

theorem asc_snoc {l : List Int} {y : Int} (h : l.Pairwise (fun a b => a < b)) (hy : ∀ x ∈ l, x < y) : (l ++ [y]).Pairwise (fun a b => a < b) :=
  List.pairwise_append.2 ⟨h, List.pairwise_singleton _ _, fun a ha b hb => by simp at hb; rw [hb]; exact hy a ha⟩

theorem take_more {L : List Dt} {i : Nat} {d : Dt} (h : L[i]? = some d) (x : Int) : (∃ e ∈ L.take (i + 1), e.1 = x) ↔ (∃ e ∈ L.take i, e.1 = x) ∨ x = d.1 := by
  obtain ⟨hi, rfl⟩ := List.getElem?_eq_some_iff.1 h
  rw [take_snoc hi]
  constructor
  · rintro ⟨e, he, rfl⟩
    rcases List.mem_append.1 he with he | he
    · exact .inl ⟨e, he, rfl⟩
    · simp at he; exact .inr (by rw [he])
  · rintro (⟨e, he, rfl⟩ | rfl)
    · exact ⟨e, List.mem_append.2 (.inl he), rfl⟩
    · exact ⟨_, List.mem_append.2 (.inr (by simp)), rfl⟩

theorem drop_cons {L : List Dt} {i : Nat} {d : Dt} (h : L[i]? = some d) : L.drop i = d :: L.drop (i + 1) := by
  obtain ⟨hi, rfl⟩ := List.getElem?_eq_some_iff.1 h
  exact List.drop_eq_getElem_cons hi

theorem drop_up {L : List Dt} (h : VM L) {i : Nat} {d : Dt} (hd : L[i]? = some d) : ∀ e ∈ L.drop (i + 1), d.1 < e.1 := by
  have h1 : (L.drop i).Pairwise (fun a b : Dt => a.1 < b.1) := h.ac.sublist (List.drop_sublist i L)
  rw [drop_cons hd] at h1
  exact (List.pairwise_cons.1 h1).1

theorem drop_all {L : List Dt} (h : VM L) {k : Nat} {e : Dt} (he : L[k]? = some e) {y : Int} (hy : y < e.1) : ∀ q ∈ L.drop k, y < q.1 := fun q hq => by
  rw [drop_cons he] at hq
  rcases List.mem_cons.1 hq with rfl | hq
  · exact hy
  · have := drop_up h he q hq
    omega

theorem AI.left {A B : List Dt} {i k : Nat} {l : List Int} (h : AI A B i k l) (hA : VM A) {d : Dt} (hd : A[i]? = some d) (hb : ∀ e ∈ B.drop k, d.1 < e.1) : AI A B (i + 1) k (l ++ [d.1]) := by
  have hdr := drop_cons hd
  have hla := h.la
  rw [hdr] at hla
  refine ⟨asc_snoc h.up fun x hx => hla x hx d (by simp), fun x => ?_, fun x hx e he => ?_, fun x hx e he => ?_, by have := h.len; simp; omega⟩
  · rw [List.mem_append, h.mem, take_more hd]
    simp only [List.mem_singleton]
    constructor
    · rintro ((h | h) | h)
      · exact .inl (.inl h)
      · exact .inr h
      · exact .inl (.inr h)
    · rintro ((h | h) | h)
      · exact .inl (.inl h)
      · exact .inr h
      · exact .inl (.inr h)
  · rcases List.mem_append.1 hx with hx | hx
    · exact hla x hx e (List.mem_cons_of_mem _ he)
    · simp at hx; rw [hx]; exact drop_up hA hd e he
  · rcases List.mem_append.1 hx with hx | hx
    · exact h.lb x hx e he
    · simp at hx; rw [hx]; exact hb e he

theorem AI.right {A B : List Dt} {i k : Nat} {l : List Int} (h : AI A B i k l) (hB : VM B) {d : Dt} (hd : B[k]? = some d) (hb : ∀ e ∈ A.drop i, d.1 < e.1) : AI A B i (k + 1) (l ++ [d.1]) := by
  have hdr := drop_cons hd
  have hla := h.lb
  rw [hdr] at hla
  refine ⟨asc_snoc h.up fun x hx => hla x hx d (by simp), fun x => ?_, fun x hx e he => ?_, fun x hx e he => ?_, by have := h.len; simp; omega⟩
  · rw [List.mem_append, h.mem, take_more hd]
    simp only [List.mem_singleton]
    constructor
    · rintro ((h | h) | h)
      · exact .inl h
      · exact .inr (.inl h)
      · exact .inr (.inr h)
    · rintro (h | h | h)
      · exact .inl (.inl h)
      · exact .inl (.inr h)
      · exact .inr h
  · rcases List.mem_append.1 hx with hx | hx
    · exact h.la x hx e he
    · simp at hx; rw [hx]; exact hb e he
  · rcases List.mem_append.1 hx with hx | hx
    · exact hla x hx e (List.mem_cons_of_mem _ he)
    · simp at hx; rw [hx]; exact drop_up hB hd e he

theorem AI.both {A B : List Dt} {i k : Nat} {l : List Int} (h : AI A B i k l) (hA : VM A) (hB : VM B) {d e : Dt} (hd : A[i]? = some d) (he : B[k]? = some e) (hde : d.1 = e.1) : AI A B (i + 1) (k + 1) (l ++ [d.1]) := by
  have hla := h.la
  have hlb := h.lb
  rw [drop_cons hd] at hla
  rw [drop_cons he] at hlb
  refine ⟨asc_snoc h.up fun x hx => hla x hx d (by simp), fun x => ?_, fun x hx q hq => ?_, fun x hx q hq => ?_, by have := h.len; simp; omega⟩
  · rw [List.mem_append, h.mem, take_more hd, take_more he, ← hde]
    simp only [List.mem_singleton]
    constructor
    · rintro ((h | h) | h)
      · exact .inl (.inl h)
      · exact .inr (.inl h)
      · exact .inl (.inr h)
    · rintro ((h | h) | h | h)
      · exact .inl (.inl h)
      · exact .inr h
      · exact .inl (.inr h)
      · exact .inr h
  · rcases List.mem_append.1 hx with hx | hx
    · exact hla x hx q (List.mem_cons_of_mem _ hq)
    · simp at hx; rw [hx]; exact drop_up hA hd q hq
  · rcases List.mem_append.1 hx with hx | hx
    · exact hlb x hx q (List.mem_cons_of_mem _ hq)
    · simp at hx; rw [hx, hde]; exact drop_up hB he q hq

theorem AI.done {A B : List Dt} {l : List Int} (h : AI A B A.length B.length l) : l = ua A B :=
  asc_ext h.up (ua_up A B) fun x => by
    rw [h.mem, mem_ua, List.take_of_length_le (Nat.le_refl _), List.take_of_length_le (Nat.le_refl _)]

theorem cell_new (w : World) (x : Value) (T : TypeId) : ∀ j u, ([x] : List Value)[j]? = some u → (w.alloc (.cells #[x] T)).cell? ((⟨w.heap.size, 0, none⟩ : Addr).add j) = some u := by
  intro j u hj
  match j, hj with
  | 0, hj => simp at hj; subst hj; simp [Addr.add]

/-- append of one number to a row of the call's own. -/
theorem wpList_append_int {y : Int} {w : World} {ops : Array Oper} {rest : List Oper} {o : Oper} {a : Act} {Q : Exit → Act → World → Prop} (hgd : o.guard = none) (s x : Operand)
    (ho : o.op = .call { callee := .builtin .append, args := #[s, x], argTypes := #[40, 40] }) (base : Nat) (v : Value) (n : Nat) (xs : List Value) (hs : a.eval s = v) (w0 : World) (hw : w = w0.alloc (.cells #[.int .i64 y] 3)) (hown : w0.ownsRow base 3 1 v n xs)
    (hx : a.eval x = .slice (some ⟨w0.heap.size, 0, none⟩) 1 1) (hb : n ≤ 8000000) (hbase : base ≤ w0.heap.size)
    (h : ∀ v' w', w'.ownsRow base 3 1 v' (n + 1) (xs ++ [.int .i64 y]) → w.grownBy w' v.ownBlock → wpList Try.prog ops Q rest (a.put o.dst v') w') : wpList Try.prog ops Q (o :: rest) a w := by
  obtain ⟨i0, hi, hz0, hz1, hz2⟩ := info_parts Try.info3
  subst hw
  exact wpList_append_own _ hgd s x 40 ho base 3 i0 _ 1 8 Try.underlying40 hi hz0 hz1 hz2 rfl (by decide) v n xs hs (hown.alloc _) ⟨w0.heap.size, 0, none⟩ 1 1 [.int .i64 y] hx rfl (cell_new w0 _ 3) (by simp [Value.oneCell']) (by unfold maxLen; omega) (by omega) (by simp; omega)
      (fun v' w' h1 h2 _ => h v' w' h1 h2)

set_option maxRecDepth 100000 in
set_option maxHeartbeats 8000000 in
theorem acts_any (a : Option Addr) (n c : Nat) (A : List Dt) (a' : Option Addr) (n' c' : Nat) (B : List Dt) (w : World) (hs : PS w a n c A) (hn : n ≤ 1000000) (hs' : PS w a' n' c' B) (hn' : n' ≤ 1000000) (hA : VM A) (hB : VM B) :
    Calls Try.prog 81 #[.slice a n c, .slice a' n' c'] w fun e w' => ∃ v, e = .returned v ∧ w'.ownsRow w.heap.size 3 1 v (ua A B).length (ints (ua A B)) ∧ RowKit.Below w.heap.size w w' := by
  have mixed := mixed
  have HAB := hid (And.intro hA hB)
  have hS := hid (And.intro hs hs')
  have l1 := hs.len
  have l2 := hs'.len
  clear hA hB hs hs'
  go_enter Try.func81, Try.ntmps81
  go_wp2
  have HL := hid (And.intro l1 l2)
  clear l1 l2
  go_loopw [6, 7, 5] (fun s6 s7 s5 wr => ∃ (i k : Nat) (l : List Int), i ≤ n ∧ k ≤ n' ∧ s6 = .int .i64 i ∧ s7 = .int .i64 k ∧ Hid (AI A B i k l) ∧ Hid (wr.ownsRow w.heap.size 3 1 s5 l.length (ints l)) ∧ Hid (RowKit.Below w.heap.size w wr)) (fun s6 s7 _ _ => (n - (intOf s6).toNat) + (n' - (intOf s7).toNat))
  case atStart => exact ⟨0, 0, [], by omega, by omega, rfl, rfl, hid (AI.start A B), hid (World.ownsRow_nil _ _ _ _), hid (Below.refl _ _)⟩
  case round =>
    obtain ⟨i, k, l, hi, hk, rfl, rfl, hAI, hO, hbl⟩ := hrel
    have hlen := hAI.out.len
    have l1 := HL.out.1
    have l2 := HL.out.2
    by_cases hin : i < n
    · have hin1 : decide (i < n) = true := decide_eq_true hin
      have hinb : ((i : Int) == (n : Int)) = false := by simp; omega
      obtain ⟨g, o, rfl, hg, hcell⟩ := hS.out.1.at (by omega)
      have hA0 := hid (List.getElem?_eq_getElem (l := A) (i := i) (by omega))
      have cA := hid (fun W (hW : RowKit.Below w.heap.size w W) => (hW.cell (p := ⟨g, o + i * 2, none⟩) hg).trans (hcell i (by omega)).1)
      clear hcell
      generalize (A[i]'(by omega)) = d at hA0 cA
      obtain ⟨d1, d2⟩ := d
      simp only at cA
      by_cases hkn : k < n'
      · have hkn1 : decide (k < n') = true := decide_eq_true hkn
        have hknb : ((k : Int) == (n' : Int)) = false := by simp; omega
        obtain ⟨g', o', rfl, hg', hcell'⟩ := hS.out.2.at (by omega)
        have hB0 := hid (List.getElem?_eq_getElem (l := B) (i := k) (by omega))
        have cB := hid (fun W (hW : RowKit.Below w.heap.size w W) => (hW.cell (p := ⟨g', o' + k * 2, none⟩) hg').trans (hcell' k (by omega)).1)
        clear hcell'
        generalize (B[k]'(by omega)) = e at hB0 cB
        obtain ⟨e1, e2⟩ := e
        simp only at cB
        clear l1 l2
        by_cases hde : d1 < e1
        · have C0 := fun m os => cA.out _ (hbl.out.trans ((below_class wr m os).mono hbl.out.size))
          have E0 := fun m os => cB.out _ (hbl.out.trans ((below_class wr m os).mono hbl.out.size))
          have hde1 : decide (d1 < e1) = true := decide_eq_true hde
          go_wp2_with fail
          refine wp_region_quiet_grown mixed (by kernel_rfl) ?_
          repeat (go_big_quiet_step (fail))
          refine wpQuiet_nil ?_
          intro _ hw'
          obtain ⟨⟨n1, o1⟩, hw''⟩ := hw'
          subst hw''
          simp only []
          have hF1 : Far wr (grow (wr.drewN n1) o1) := (Far.refl wr).more n1 o1
          have hO1 := hid (own_far' hO.out hF1)
          have hB1 := hid (hbl.out.trans (hF1.below.mono hbl.out.size))
          clear hF1 C0 E0
          generalize grow (wr.drewN n1) o1 = W1 at hO1 hB1 ⊢
          have x0 := cA.out _ hB1.out
          go_wp2_with (first
            | (at_builtin; refine wpList_append_int (y := d1) rfl _ _ rfl w.heap.size _ l.length (ints l) rfl W1 rfl hO1.out rfl (by omega) hB1.out.size ?_; intro v5 w5 ho5 hg5))
          go_roundw
          case rel =>
            refine ⟨i + 1, k, l ++ [d1], by omega, by omega, by go_num, by go_num, hid (hAI.out.left HAB.out.1 hA0.out (drop_all HAB.out.2 hB0.out hde)), hid ?_, hid ?_⟩
            · rw [List.length_append, List.length_singleton, show ints (l ++ [d1]) = ints l ++ [.int .i64 d1] by simp [ints]]; exact ho5
            · exact (hB1.out.alloc hB1.out.size _).grown hg5 (by have := hB1.out.size; simp; omega) (fun j hj => (hO1.out.lt j hj).1)
          case measure => simp [intOf]; omega
        · have hde1 : decide (d1 < e1) = false := decide_eq_false hde
          by_cases hed : e1 < d1
          · have C0 := fun m os => cA.out _ (hbl.out.trans ((below_class wr m os).mono hbl.out.size))
            have E0 := fun m os => cB.out _ (hbl.out.trans ((below_class wr m os).mono hbl.out.size))
            have hed1 : decide (e1 < d1) = true := decide_eq_true hed
            go_wp2_with fail
            refine wp_region_quiet_grown mixed (by kernel_rfl) ?_
            repeat (go_big_quiet_step (fail))
            refine wpQuiet_nil ?_
            intro _ hw'
            obtain ⟨⟨n1, o1⟩, hw''⟩ := hw'
            subst hw''
            simp only []
            have hF1 : Far wr (grow (wr.drewN n1) o1) := (Far.refl wr).more n1 o1
            have hO1 := hid (own_far' hO.out hF1)
            have hB1 := hid (hbl.out.trans (hF1.below.mono hbl.out.size))
            clear hF1 C0 E0
            generalize grow (wr.drewN n1) o1 = W1 at hO1 hB1 ⊢
            have C0 := fun m os => cA.out _ (hB1.out.trans ((below_class W1 m os).mono hB1.out.size))
            have E0 := fun m os => cB.out _ (hB1.out.trans ((below_class W1 m os).mono hB1.out.size))
            go_wp2_with fail
            refine wp_region_quiet_grown mixed (by kernel_rfl) ?_
            repeat (go_big_quiet_step (fail))
            refine wpQuiet_nil ?_
            intro _ hw'
            obtain ⟨⟨n2, o2⟩, hw''⟩ := hw'
            subst hw''
            simp only []
            have hF2 : Far W1 (grow (W1.drewN n2) o2) := (Far.refl W1).more n2 o2
            have hO2 := hid (own_far' hO1.out hF2)
            have hB2 := hid (hB1.out.trans (hF2.below.mono hB1.out.size))
            clear hF2 C0 E0
            generalize grow (W1.drewN n2) o2 = W2 at hO2 hB2 ⊢
            have x0 := cB.out _ hB2.out
            go_wp2_with (first
              | (at_builtin; refine wpList_append_int (y := e1) rfl _ _ rfl w.heap.size _ l.length (ints l) rfl W2 rfl hO2.out rfl (by omega) hB2.out.size ?_; intro v5 w5 ho5 hg5))
            go_roundw
            case rel =>
              refine ⟨i, k + 1, l ++ [e1], by omega, by omega, by go_num, by go_num, hid (hAI.out.right HAB.out.2 hB0.out (drop_all HAB.out.1 hA0.out hed)), hid ?_, hid ?_⟩
              · rw [List.length_append, List.length_singleton, show ints (l ++ [e1]) = ints l ++ [.int .i64 e1] by simp [ints]]; exact ho5
              · exact (hB2.out.alloc hB2.out.size _).grown hg5 (by have := hB2.out.size; simp; omega) (fun j hj => (hO2.out.lt j hj).1)
            case measure => simp [intOf]; omega
          · have C0 := fun m os => cA.out _ (hbl.out.trans ((below_class wr m os).mono hbl.out.size))
            have E0 := fun m os => cB.out _ (hbl.out.trans ((below_class wr m os).mono hbl.out.size))
            have hed1 : decide (e1 < d1) = false := decide_eq_false hed
            have heq := hid (show d1 = e1 by omega)
            go_wp2_with fail
            refine wp_region_quiet_grown mixed (by kernel_rfl) ?_
            repeat (go_big_quiet_step (fail))
            refine wpQuiet_nil ?_
            intro _ hw'
            obtain ⟨⟨n1, o1⟩, hw''⟩ := hw'
            subst hw''
            simp only []
            have hF1 : Far wr (grow (wr.drewN n1) o1) := (Far.refl wr).more n1 o1
            have hO1 := hid (own_far' hO.out hF1)
            have hB1 := hid (hbl.out.trans (hF1.below.mono hbl.out.size))
            clear hF1 C0 E0
            generalize grow (wr.drewN n1) o1 = W1 at hO1 hB1 ⊢
            have C0 := fun m os => cA.out _ (hB1.out.trans ((below_class W1 m os).mono hB1.out.size))
            have E0 := fun m os => cB.out _ (hB1.out.trans ((below_class W1 m os).mono hB1.out.size))
            go_wp2_with fail
            refine wp_region_quiet_grown mixed (by kernel_rfl) ?_
            repeat (go_big_quiet_step (fail))
            refine wpQuiet_nil ?_
            intro _ hw'
            obtain ⟨⟨n2, o2⟩, hw''⟩ := hw'
            subst hw''
            simp only []
            have hF2 : Far W1 (grow (W1.drewN n2) o2) := (Far.refl W1).more n2 o2
            have hO2 := hid (own_far' hO1.out hF2)
            have hB2 := hid (hB1.out.trans (hF2.below.mono hB1.out.size))
            clear hF2 C0 E0
            generalize grow (W1.drewN n2) o2 = W2 at hO2 hB2 ⊢
            have x0 := cA.out _ hB2.out
            go_wp2_with (first
              | (at_builtin; refine wpList_append_int (y := d1) rfl _ _ rfl w.heap.size _ l.length (ints l) rfl W2 rfl hO2.out rfl (by omega) hB2.out.size ?_; intro v5 w5 ho5 hg5))
            go_roundw
            case rel =>
              refine ⟨i + 1, k + 1, l ++ [d1], by omega, by omega, by go_num, by go_num, hid (hAI.out.both HAB.out.1 HAB.out.2 hA0.out hB0.out heq.out), hid ?_, hid ?_⟩
              · rw [List.length_append, List.length_singleton, show ints (l ++ [d1]) = ints l ++ [.int .i64 d1] by simp [ints]]; exact ho5
              · exact (hB2.out.alloc hB2.out.size _).grown hg5 (by have := hB2.out.size; simp; omega) (fun j hj => (hO2.out.lt j hj).1)
            case measure => simp [intOf]; omega
      · obtain rfl : k = n' := by omega
        have hend := hid (show B.drop k = [] from List.drop_of_length_le (by omega))
        clear l1 l2
        have C0 := fun m os => cA.out _ (hbl.out.trans ((below_class wr m os).mono hbl.out.size))
        go_wp2_with fail
        refine wp_region_quiet_grown mixed (by kernel_rfl) ?_
        repeat (go_big_quiet_step (fail))
        refine wpQuiet_nil ?_
        intro _ hw'
        obtain ⟨⟨n1, o1⟩, hw''⟩ := hw'
        subst hw''
        simp only []
        have hF1 : Far wr (grow (wr.drewN n1) o1) := (Far.refl wr).more n1 o1
        have hO1 := hid (own_far' hO.out hF1)
        have hB1 := hid (hbl.out.trans (hF1.below.mono hbl.out.size))
        clear hF1 C0 
        generalize grow (wr.drewN n1) o1 = W1 at hO1 hB1 ⊢
        have x0 := cA.out _ hB1.out
        go_wp2_with (first
          | (at_builtin; refine wpList_append_int (y := d1) rfl _ _ rfl w.heap.size _ l.length (ints l) rfl W1 rfl hO1.out rfl (by omega) hB1.out.size ?_; intro v5 w5 ho5 hg5))
        go_roundw
        case rel =>
          refine ⟨i + 1, k, l ++ [d1], by omega, by omega, by go_num, by go_num, hid (hAI.out.left HAB.out.1 hA0.out (fun e he => by rw [hend.out] at he; simp at he)), hid ?_, hid ?_⟩
          · rw [List.length_append, List.length_singleton, show ints (l ++ [d1]) = ints l ++ [.int .i64 d1] by simp [ints]]; exact ho5
          · exact (hB1.out.alloc hB1.out.size _).grown hg5 (by have := hB1.out.size; simp; omega) (fun j hj => (hO1.out.lt j hj).1)
        case measure => simp [intOf]; omega
    · obtain rfl : i = n := by omega
      by_cases hkn : k < n'
      · have hkn1 : decide (k < n') = true := decide_eq_true hkn
        have hknb : ((k : Int) == (n' : Int)) = false := by simp; omega
        obtain ⟨g', o', rfl, hg', hcell'⟩ := hS.out.2.at (by omega)
        have hB0 := hid (List.getElem?_eq_getElem (l := B) (i := k) (by omega))
        have cB := hid (fun W (hW : RowKit.Below w.heap.size w W) => (hW.cell (p := ⟨g', o' + k * 2, none⟩) hg').trans (hcell' k (by omega)).1)
        clear hcell'
        generalize (B[k]'(by omega)) = e at hB0 cB
        obtain ⟨e1, e2⟩ := e
        simp only at cB
        have hend := hid (show A.drop i = [] from List.drop_of_length_le (by omega))
        clear l1 l2
        have E0 := fun m os => cB.out _ (hbl.out.trans ((below_class wr m os).mono hbl.out.size))
        go_wp2_with fail
        refine wp_region_quiet_grown mixed (by kernel_rfl) ?_
        repeat (go_big_quiet_step (fail))
        refine wpQuiet_nil ?_
        intro _ hw'
        obtain ⟨⟨n1, o1⟩, hw''⟩ := hw'
        subst hw''
        simp only []
        have hF1 : Far wr (grow (wr.drewN n1) o1) := (Far.refl wr).more n1 o1
        have hO1 := hid (own_far' hO.out hF1)
        have hB1 := hid (hbl.out.trans (hF1.below.mono hbl.out.size))
        clear hF1 E0
        generalize grow (wr.drewN n1) o1 = W1 at hO1 hB1 ⊢
        have E0 := fun m os => cB.out _ (hB1.out.trans ((below_class W1 m os).mono hB1.out.size))
        go_wp2_with fail
        refine wp_region_quiet_grown mixed (by kernel_rfl) ?_
        repeat (go_big_quiet_step (fail))
        refine wpQuiet_nil ?_
        intro _ hw'
        obtain ⟨⟨n2, o2⟩, hw''⟩ := hw'
        subst hw''
        simp only []
        have hF2 : Far W1 (grow (W1.drewN n2) o2) := (Far.refl W1).more n2 o2
        have hO2 := hid (own_far' hO1.out hF2)
        have hB2 := hid (hB1.out.trans (hF2.below.mono hB1.out.size))
        clear hF2 E0
        generalize grow (W1.drewN n2) o2 = W2 at hO2 hB2 ⊢
        have x0 := cB.out _ hB2.out
        go_wp2_with (first
          | (at_builtin; refine wpList_append_int (y := e1) rfl _ _ rfl w.heap.size _ l.length (ints l) rfl W2 rfl hO2.out rfl (by omega) hB2.out.size ?_; intro v5 w5 ho5 hg5))
        go_roundw
        case rel =>
          refine ⟨i, k + 1, l ++ [e1], by omega, by omega, by go_num, by go_num, hid (hAI.out.right HAB.out.2 hB0.out (fun e he => by rw [hend.out] at he; simp at he)), hid ?_, hid ?_⟩
          · rw [List.length_append, List.length_singleton, show ints (l ++ [e1]) = ints l ++ [.int .i64 e1] by simp [ints]]; exact ho5
          · exact (hB2.out.alloc hB2.out.size _).grown hg5 (by have := hB2.out.size; simp; omega) (fun j hj => (hO2.out.lt j hj).1)
        case measure => simp [intOf]; omega
      · obtain rfl : k = n' := by omega
        have hdone := hid (show l = ua A B from AI.done (by rw [l1, l2]; exact hAI.out))
        clear l1 l2
        go_wp2_with fail
        go_ret
        rw [← hdone.out]
        exact ⟨_, rfl, hO.out, hbl.out⟩
end

section
open Go.RowKit
open Go.Sort (grow)

theorem sbase {w : World} {b b' : Nat} {v : Value} {n : Nat} {xs : List Value} (h : w.ownsRow b 24 2 v n xs) (hb : b' ≤ b) : w.ownsRow b' 24 2 v n xs := by
  obtain ⟨h1, h2⟩ := h
  refine ⟨h1, ?_⟩
  rcases h2 with h2 | ⟨g', cap', cur, hv, hg, r⟩
  · exact .inl h2
  · exact .inr ⟨g', cap', cur, hv, Nat.le_trans hb hg, r⟩

/-- A row of numbers of the call's own, by its cells. -/
theorem ints_cells {w : World} {b : Nat} {v : Value} {l : List Int} (h : w.ownsRow b 3 1 v l.length (ints l)) :
    ∃ a c, v = .slice a l.length c ∧ (0 < l.length → ∃ g, a = some ⟨g, 0, none⟩ ∧ g < w.heap.size ∧ ∀ i (hi : i < l.length), w.cell? ⟨g, i, none⟩ = some (.int .i64 l[i])) := by
  rcases h.2 with ⟨rfl, hn⟩ | ⟨g, cap, cur, rfl, hg, hb, hn, hcap, hsz, ht⟩
  · exact ⟨none, 0, by rw [hn], fun hp => by omega⟩
  · refine ⟨_, cap, rfl, fun _ => ⟨g, rfl, (Array.getElem?_eq_some_iff.1 hb).1, fun i hi => ?_⟩⟩
    have := h.cells (g := g) rfl i (.int .i64 l[i]) (by simp [ints, hi])
    rw [Addr.add_lit] at this
    simpa using this

theorem pks_length (pk : Int → Int → Int) (A B : List Dt) (l : List Int) : (pks pk A B l).length ≤ l.length := List.length_filterMap_le _ _

theorem rget_eq {a : Option Addr} {n c : Nat} {L : List Dt} {y : Int} {w : World} (hs : PS w a n c L) (hn : n ≤ 1000000) : Calls Try.prog 63 #[.slice a n c, .int .i64 y] w fun e w' => e = .returned (.int .i64 (gt L y)) ∧ w = w' :=
  (rget_any a n c L y w hs (Nat.le_trans hn (by decide))).mono fun _ _ ⟨he, hw⟩ => ⟨he, hw.symm⟩

set_option maxRecDepth 100000 in
set_option maxHeartbeats 4000000 in
theorem rjoin_any {a : Option Addr} {n c : Nat} {A : List Dt} {a' : Option Addr} {n' c' : Nat} {B : List Dt} {w : World} (hs : PS w a n c A) (hn : n ≤ 1000000) (hs' : PS w a' n' c' B) (hn' : n' ≤ 1000000) (hA : VM A) (hB : VM B) :
    Calls Try.prog 65 #[.slice a n c, .slice a' n' c', .bool false] w (Gives w (vj (fun x y => max x y) A B)) := by
  have hac := acts_any a n c A a' n' c' B w hs hn hs' hn' hA hB
  have hS := hid (And.intro hs hs')
  have hul : (ua A B).length ≤ 2000000 := by
    have := ua_length A B
    have := hs.len
    have := hs'.len
    omega
  have hvj : Hid (vj (fun x y => max x y) A B = pks (fun x y => max x y) A B (ua A B)) := hid rfl
  clear hA hB hs hs'
  generalize ua A B = l at hac hul hvj
  go_enter Try.func65, Try.ntmps65
  go_wp2_with (first | (go_at_call 81; refine hac.mono ?_; rintro e w1 ⟨v1, rfl, hO1, hB1⟩; obtain ⟨ad, cd, rfl, hci⟩ := ints_cells hO1))
  have HB1 := hid hB1
  have HC := hid hci
  have hvl : Hid _ := hid hO1
  clear hB1 hci hO1 hac
  go_loopw [9, 7] (fun s9 s7 wr => ∃ (i : Nat) (R : List Dt), i ≤ l.length ∧ s9 = .int .i64 i ∧ Hid (R = pks (fun x y => max x y) A B (l.take i)) ∧ Hid (wr.ownsRow w1.heap.size 24 2 s7 R.length (flat R)) ∧ Hid (RowKit.Below w1.heap.size w1 wr)) (fun s9 _ _ => l.length - (intOf s9).toNat)
  case atStart => exact ⟨0, [], by omega, rfl, hid (by simp [pks]), hid (World.ownsRow_nil _ _ _ _), hid (Below.refl _ _)⟩
  case round =>
    obtain ⟨i, R, hi, rfl, hR, hO, hbl⟩ := hrel
    by_cases hlt : i < l.length
    · obtain ⟨g, rfl, hg, hcell⟩ := HC.out (by omega)
      have hci := (hbl.out.cell (p := ⟨g, i, none⟩) hg).trans (hcell i hlt)
      have hsn : Hid (pks (fun x y => max x y) A B (l.take (i + 1)) = pks (fun x y => max x y) A B (l.take i) ++ pks (fun x y => max x y) A B [l[i]]) := hid (by rw [List.take_succ_eq_append_getElem hlt, pks_append])
      have hRl : R.length ≤ 2000000 := by
        rw [hR.out]
        have := pks_length (fun x y => max x y) A B (l.take i)
        rw [List.length_take] at this
        omega
      generalize l[i] = y at hci hsn
      clear hcell
      have hone : Hid (pks (fun x y => max x y) A B [y] = if 0 < max (gt A y) (gt B y) then [(y, max (gt A y) (gt B y))] else []) := hid (by
        simp only [pks, List.filterMap_cons, List.filterMap_nil]
        split <;> simp_all)
      have bw : RowKit.Below w.heap.size w wr := HB1.out.trans (hbl.out.mono HB1.out.size)
      have c1 := rget_eq (y := y) (hS.out.1.below bw) hn
      have c2 := rget_eq (y := y) (hS.out.2.below bw) hn'
      have hbs := hbl.out.size
      clear bw
      generalize gt A y = u at c1 hone
      generalize gt B y = v at c2 hone
      by_cases huv : u < v
      · generalize hz : max u v = z at hone
        have huvb : decide (u < v) = true := by simp; omega
        have hzz : Hid (z = v) := hid (by rw [← hz]; omega)
        clear hz
        by_cases hzp : 0 < z
        · have hp2 : 0 < v := by rw [← hzz.out]; exact hzp
          go_wp2_with (first
            | (at_builtin; have hq := hs2; refine wpList_append_dots rfl _ _ 56 Try.underlying56 rfl w1.heap.size _ R.length (flat R) rfl (hO.out.alloc _) (some ⟨wr.heap.size, 0, none⟩) 1 1 [(y, v)] rfl (ps_one wr (y, v)) (by omega) (by simp; omega) ?_; intro v5 w5 ho5 hg5)
            | (go_at_call 63; have hq := hs1; refine c2.mono ?_; rintro e w3 ⟨rfl, rfl⟩; have hs2 := hs1)
            | (go_at_call 63; refine c1.mono ?_; rintro e w2 ⟨rfl, rfl⟩; have hs1 := hid True.intro))
          go_roundw
          case rel =>
            refine ⟨i + 1, R ++ [(y, z)], by omega, by go_num, hid ?_, hid ?_, hid ?_⟩
            · rw [hsn.out, hone.out, if_pos hzp, ← hR.out]
            · rw [List.length_append, List.length_singleton, flat_append, hzz.out]; exact ho5
            · exact (hbl.out.alloc hbl.out.size _).grown hg5 (by simp; omega) (fun j hj => (hO.out.lt j hj).1)
          case measure => simp [intOf]; omega
        · have hp2 : ¬ 0 < v := by rw [← hzz.out]; exact hzp
          go_wp2_with (first
            | (go_at_call 63; have hq := hs1; refine c2.mono ?_; rintro e w3 ⟨rfl, rfl⟩; have hs2 := hs1)
            | (go_at_call 63; refine c1.mono ?_; rintro e w2 ⟨rfl, rfl⟩; have hs1 := hid True.intro))
          go_roundw
          case rel =>
            refine ⟨i + 1, R, by omega, by go_num, hid ?_, hO, hbl⟩
            rw [hsn.out, hone.out, if_neg (by omega), ← hR.out, List.append_nil]
          case measure => simp [intOf]; omega
      · generalize hz : max u v = z at hone
        have huvb : decide (u < v) = false := by simp; omega
        have hzz : Hid (z = u) := hid (by rw [← hz]; omega)
        clear hz
        by_cases hzp : 0 < z
        · have hp2 : 0 < u := by rw [← hzz.out]; exact hzp
          go_wp2_with (first
            | (at_builtin; have hq := hs2; refine wpList_append_dots rfl _ _ 56 Try.underlying56 rfl w1.heap.size _ R.length (flat R) rfl (hO.out.alloc _) (some ⟨wr.heap.size, 0, none⟩) 1 1 [(y, u)] rfl (ps_one wr (y, u)) (by omega) (by simp; omega) ?_; intro v5 w5 ho5 hg5)
            | (go_at_call 63; have hq := hs1; refine c2.mono ?_; rintro e w3 ⟨rfl, rfl⟩; have hs2 := hs1)
            | (go_at_call 63; refine c1.mono ?_; rintro e w2 ⟨rfl, rfl⟩; have hs1 := hid True.intro))
          go_roundw
          case rel =>
            refine ⟨i + 1, R ++ [(y, z)], by omega, by go_num, hid ?_, hid ?_, hid ?_⟩
            · rw [hsn.out, hone.out, if_pos hzp, ← hR.out]
            · rw [List.length_append, List.length_singleton, flat_append, hzz.out]; exact ho5
            · exact (hbl.out.alloc hbl.out.size _).grown hg5 (by simp; omega) (fun j hj => (hO.out.lt j hj).1)
          case measure => simp [intOf]; omega
        · have hp2 : ¬ 0 < u := by rw [← hzz.out]; exact hzp
          go_wp2_with (first
            | (go_at_call 63; have hq := hs1; refine c2.mono ?_; rintro e w3 ⟨rfl, rfl⟩; have hs2 := hs1)
            | (go_at_call 63; refine c1.mono ?_; rintro e w2 ⟨rfl, rfl⟩; have hs1 := hid True.intro))
          go_roundw
          case rel =>
            refine ⟨i + 1, R, by omega, by go_num, hid ?_, hO, hbl⟩
            rw [hsn.out, hone.out, if_neg (by omega), ← hR.out, List.append_nil]
          case measure => simp [intOf]; omega
    · obtain rfl : i = l.length := by omega
      go_wp2_with fail
      go_ret
      have hRR : R = vj (fun x y => max x y) A B := by rw [hvj.out, hR.out, List.take_length]
      rw [← hRR]
      exact ⟨_, rfl, sbase hO.out HB1.out.size, HB1.out.trans (hbl.out.mono HB1.out.size)⟩
end

section
open Go.RowKit

theorem grownBy_setCell (w : World) (b o : Nat) (v : Value) : w.grownBy (w.setCell ⟨b, o, none⟩ v) (some b) := by
  refine ⟨rfl, rfl, rfl, by simp [World.setCell], fun k _ hne => ?_⟩
  have : b ≠ k := fun e => hne (by rw [e])
  simp [World.setCell, Array.getElem?_modify, this]
end

section
set_option linter.unusedVariables false
open Go.RowKit Go.Sort Go.Maps

abbrev Rf := Dt → Option (Nat × Nat × Nat)

/-- The blocks under one, in order. -/
def kidB (S : List Sp) (p : Dt) : List Dt := (kidS S p).map Sp.b

/-- The rows, each of its own. -/
structure RW (w : World) (S : List Sp) (f : Rf) (B : Nat → Prop) : Prop where
  row : ∀ p, w.ownsRow 0 24 2 (slv (f p)) (kidB S p).length (flat (kidB S p))
  own : ∀ p q, f p = some q → B q.1
  apart : ∀ p p' q q', f p = some q → f p' = some q' → q.1 = q'.1 → p = p'
  nz : ∀ p, kidB S p = [] → f p = none

/-- A row of one's own stays where its block is as it was. -/
theorem row_kept {w w' : World} {o : Option (Nat × Nat × Nat)} {n : Nat} {xs : List Value} (h : w.ownsRow 0 24 2 (slv o) n xs) (hk : ∀ q, o = some q → w'.heap[q.1]? = w.heap[q.1]?) : w'.ownsRow 0 24 2 (slv o) n xs := by
  refine ⟨h.1, ?_⟩
  rcases h.2 with h' | ⟨g, cap, cur, e, hb, hg, hn, hc, hs, ht⟩
  · exact Or.inl h'
  · refine Or.inr ⟨g, cap, cur, e, hb, ?_, hn, hc, hs, ht⟩
    cases o with
    | none => simp [slv] at e
    | some q =>
      simp only [slv, Value.slice.injEq, Option.some.injEq, Addr.mk.injEq, and_true] at e
      have := hk q rfl
      rw [e.1] at this
      rw [this]
      exact hg

theorem row_block {w : World} {q : Nat × Nat × Nat} {n : Nat} {xs : List Value} (h : w.ownsRow 0 24 2 (slv (some q)) n xs) : q.2.1 = n ∧ n ≤ q.2.2 ∧ q.2.2 ≤ maxLen ∧ ∃ cs, w.heap[q.1]? = some (.cells cs 24 (0, 0)) := by
  rcases h.2 with ⟨e, _⟩ | ⟨g, cap, cur, e, hb, hg, hn, hc, hs, ht⟩
  · simp [slv] at e
  · simp only [slv, Value.slice.injEq, Option.some.injEq, Addr.mk.injEq, and_true] at e
    obtain ⟨e1, e2, e3⟩ := e
    exact ⟨e2, by rw [e3]; exact hn, by rw [e3]; exact hc, cur, by rw [e1]; exact hg⟩

theorem RW.kept {w w' : World} {S : List Sp} {f : Rf} {B : Nat → Prop} (h : RW w S f B) (hk : ∀ p q, f p = some q → w'.heap[q.1]? = w.heap[q.1]?) : RW w' S f B :=
  ⟨fun p => row_kept (h.row p) (hk p), h.own, h.apart, h.nz⟩

theorem RW.mono {w : World} {S : List Sp} {f : Rf} {B B' : Nat → Prop} (h : RW w S f B) (hb : ∀ j, B j → B' j) : RW w S f B' := ⟨h.row, fun p q e => hb _ (h.own p q e), h.apart, h.nz⟩

theorem RW.perm {w : World} {S S' : List Sp} {f : Rf} {B : Nat → Prop} (h : RW w S f B) (hn : (S.map Sp.b).Nodup) (hp : S.Perm S') : RW w S' f B := by
  have e : ∀ p, kidB S p = kidB S' p := fun p => by unfold kidB; rw [kidS_perm hn hp p]
  exact ⟨fun p => by rw [← e p]; exact h.row p, h.own, h.apart, fun p hp' => h.nz p (by rw [e p]; exact hp')⟩

/-- As it is read. -/
theorem row_ps {w : World} {o : Option (Nat × Nat × Nat)} {L : List Dt} (h : w.ownsRow 0 24 2 (slv o) L.length (flat L)) : ∃ a c, slv o = .slice a L.length c ∧ PS w a L.length c L := by
  rcases h.2 with ⟨e, h0⟩ | ⟨g, cap, cur, e, hb, hg, hn, hc, hs, ht⟩
  · rw [h0]
    refine ⟨none, 0, e, ⟨by omega, Nat.le_refl _, by unfold maxLen; omega, fun _ => ⟨rfl, rfl⟩, fun ad e => by cases e⟩⟩
  · refine ⟨some ⟨g, 0, none⟩, cap, e, ⟨rfl, hn, hc, fun e => (by cases e), fun ad e' j u hj => ?_⟩⟩
    cases e'
    rw [Addr.add_lit, Nat.zero_add]
    have hown : w.ownsRow 0 24 2 (.slice (some ⟨g, 0, none⟩) L.length cap) L.length (flat L) := ⟨h.1, Or.inr ⟨g, cap, cur, rfl, hb, hg, hn, hc, hs, ht⟩⟩
    have hjn : j < L.length * 2 := by
      have := (List.getElem?_eq_some_iff.1 hj).1
      rw [flat_length] at this
      exact this
    rw [World.ownsRow.cellAt hown j hjn]
    exact hj

/-- The two maps, or none. -/
def SB (w : World) (pl kd : Value) (S : List Sp) (B : Nat → Prop) : Prop :=
  (pl = .map none ∧ kd = .map none ∧ S = []) ∨ ∃ m k f, pl = .map (some m) ∧ kd = .map (some k) ∧ m ≠ k ∧ B m ∧ B k ∧ PLM w m S ∧ KM w k S.length f ∧ RW w S f B

theorem SB.v {w : World} {pl kd : Value} {S : List Sp} {B : Nat → Prop} (h : SB w pl kd S B) : PlV w pl S := by
  rcases h with ⟨h1, _, h2⟩ | ⟨m, k, f, h1, h2, _, _, _, h3, _⟩
  · exact Or.inl ⟨h1, h2⟩
  · exact Or.inr ⟨m, h1, h3⟩

theorem SB.mono {w : World} {pl kd : Value} {S : List Sp} {B B' : Nat → Prop} (h : SB w pl kd S B) (hb : ∀ j, B j → B' j) : SB w pl kd S B' := by
  rcases h with h | ⟨m, k, f, h1, h2, h3, h4, h5, h6, h7, h8⟩
  · exact Or.inl h
  · exact Or.inr ⟨m, k, f, h1, h2, h3, hb _ h4, hb _ h5, h6, h7, h8.mono hb⟩

theorem SB.kept {w w' : World} {pl kd : Value} {S : List Sp} {B : Nat → Prop} (h : SB w pl kd S B) (hk : ∀ j, B j → w'.heap[j]? = w.heap[j]?) : SB w' pl kd S B := by
  rcases h with h | ⟨m, k, f, h1, h2, h3, h4, h5, h6, h7, h8⟩
  · exact Or.inl h
  · exact Or.inr ⟨m, k, f, h1, h2, h3, h4, h5, h6.same (hk m h4), h7.same (hk k h5), h8.kept (fun p q e => hk _ (h8.own p q e))⟩

theorem SB.perm {w : World} {pl kd : Value} {S S' : List Sp} {B : Nat → Prop} (h : SB w pl kd S B) (hn : (S.map Sp.b).Nodup) (hp : S.Perm S') : SB w pl kd S' B := by
  rcases h with ⟨h1, h2, h3⟩ | ⟨m, k, f, h1, h2, h3, h4, h5, h6, h7, h8⟩
  · subst h3
    exact Or.inl ⟨h1, h2, List.nil_perm.1 hp⟩
  · exact Or.inr ⟨m, k, f, h1, h2, h3, h4, h5, h6.perm hn hp, by rw [← hp.length_eq]; exact h7, h8.perm hn hp⟩

/-- What is under a parent, as the map of rows tells it. -/
theorem SB.look {w : World} {pl kd : Value} {S : List Sp} {B : Nat → Prop} (h : SB w pl kd S B) {p : Dt} (hp : Dw p) : ∃ a c, (Instr.lookup 64 kd (dv p) false).run Try.prog w = .ok (.slice a (kidB S p).length c) w ∧ PS w a (kidB S p).length c (kidB S p) := by
  rcases h with ⟨_, h2, h3⟩ | ⟨m, k, f, h1, h2, h3, h4, h5, h6, h7, h8⟩
  · subst h2 h3
    exact ⟨none, 0, sl_nil w hp, ⟨rfl, Nat.le_refl _, by unfold maxLen; omega, fun _ => ⟨rfl, rfl⟩, fun ad e => by cases e⟩⟩
  · subst h2
    obtain ⟨a, c, e, hps⟩ := row_ps (h8.row p)
    exact ⟨a, c, by rw [h7.look hp, e], hps⟩

/-- The tree's block. -/
def TB (w : World) (t : Nat) (lg fd dn pl kd : Value) : Prop := w.heap[t]? = some (.cells #[lg, fd, dn, pl, kd] 68 (0, 0))

/-- What is no memory is as it was. -/
def Sm (w w' : World) : Prop := w'.os = w.os ∧ w'.tape = w.tape ∧ w'.output = w.output
theorem Sm.refl (w : World) : Sm w w := ⟨rfl, rfl, rfl⟩
theorem Sm.trans {a b c : World} (h : Sm a b) (k : Sm b c) : Sm a c := ⟨k.1.trans h.1, k.2.1.trans h.2.1, k.2.2.trans h.2.2⟩
theorem Sm.g {w w' : World} {row : Option Nat} (h : w.grownBy w' row) : Sm w w' := ⟨h.os, h.tape, h.output⟩
theorem Sm.b {n : Nat} {w w' : World} (h : Below n w w') : Sm w w' := ⟨h.os, h.tape, h.output⟩

/-- All other blocks are as they were. -/
structure KB (w w' : World) (B : Nat → Prop) (t : Nat) : Prop where
  size : w.heap.size ≤ w'.heap.size
  keep : ∀ j, j < w.heap.size → ¬ B j → j ≠ t → w'.heap[j]? = w.heap[j]?
  sm : Sm w w'

/-- What is one's own behind it: what was, and what is new. -/
def Bn (w w' : World) (B : Nat → Prop) (j : Nat) : Prop := B j ∨ (w.heap.size ≤ j ∧ j < w'.heap.size)

theorem kidB_lay {S : List Sp} {s : Sp} (h : ((S ++ [s]).map Sp.b).Nodup) : kidB (S ++ [s]) s.p = (kidB S s.p).take (rkL kdl (kidS S s.p) s) ++ [s.b] ++ (kidB S s.p).drop (rkL kdl (kidS S s.p) s) := by
  unfold kidB
  rw [kidS_lay h]
  unfold insL
  simp [List.map_take, List.map_drop]

theorem kidB_lay_else {S : List Sp} {s : Sp} (h : ((S ++ [s]).map Sp.b).Nodup) {p : Dt} (hp : p ≠ s.p) : kidB (S ++ [s]) p = kidB S p := by
  unfold kidB
  rw [kidS_lay_else h hp]

theorem kidB_lift {S : List Sp} (h : (S.map Sp.b).Nodup) {s : Sp} (hs : s ∈ S) : kidB (lift S s.b) s.p = (kidB S s.p).take (rkL kdl (kidS S s.p) s) ++ (kidB S s.p).drop (rkL kdl (kidS S s.p) s + 1) := by
  unfold kidB
  rw [kidS_lift h hs]
  simp [List.map_take, List.map_drop]

theorem kidB_lift_else {S : List Sp} (h : (S.map Sp.b).Nodup) {s : Sp} (hs : s ∈ S) {p : Dt} (hp : p ≠ s.p) : kidB (lift S s.b) p = kidB S p := by
  unfold kidB
  rw [kidS_lift_else h hs hp]

/-- A block is laid: its row is another one, the others are as they were. -/
theorem RW.lay {w w' : World} {S : List Sp} {f : Rf} {B B' : Nat → Prop} (h : RW w S f B) {s : Sp} (hn : ((S ++ [s]).map Sp.b).Nodup) {q : Nat × Nat × Nat}
    (hr : w'.ownsRow 0 24 2 (slv (some q)) ((kidB S s.p).length + 1) (flat ((kidB S s.p).take (rkL kdl (kidS S s.p) s) ++ [s.b] ++ (kidB S s.p).drop (rkL kdl (kidS S s.p) s)))) (hb : ∀ j, B j → B' j) (hq : B' q.1) (hne : ∀ p, p ≠ s.p → ∀ q', f p = some q' → q'.1 ≠ q.1) (hk : ∀ p, p ≠ s.p → ∀ q', f p = some q' → w'.heap[q'.1]? = w.heap[q'.1]?) :
    RW w' (S ++ [s]) (fun e => if e = s.p then some q else f e) B' := by
  have hle := rk_le kdl (kidS S s.p) s
  have hl : (kidB S s.p).length = (kidS S s.p).length := by unfold kidB; rw [List.length_map]
  have e1 : (kidB (S ++ [s]) s.p).length = (kidB S s.p).length + 1 := by
    rw [kidB_lay hn, List.length_append, List.length_append, List.length_take, List.length_drop, List.length_singleton]
    omega
  refine ⟨fun p => ?_, fun p q' e => ?_, fun p p' q1 q2 e1 e2 e3 => ?_, fun p hp => ?_⟩
  · by_cases e : p = s.p
    · subst e
      simp only [if_true]
      rw [e1, kidB_lay hn]
      exact hr
    · simp only [e, if_false]
      rw [kidB_lay_else hn e]
      exact row_kept (h.row p) (hk p e)
  · by_cases e' : p = s.p
    · simp only [e', if_true, Option.some.injEq] at e
      rw [← e]; exact hq
    · simp only [e', if_false] at e
      exact hb _ (h.own p q' e)
  · by_cases a1 : p = s.p
    · by_cases a2 : p' = s.p
      · rw [a1, a2]
      · simp only [a1, if_true, Option.some.injEq] at e1
        simp only [a2, if_false] at e2
        exact absurd (e3.symm.trans (by rw [e1])) (hne p' a2 q2 e2)
    · by_cases a2 : p' = s.p
      · simp only [a2, if_true, Option.some.injEq] at e2
        simp only [a1, if_false] at e1
        exact absurd (e3.trans (by rw [e2])) (hne p a1 q1 e1)
      · simp only [a1, if_false] at e1
        simp only [a2, if_false] at e2
        exact h.apart p p' q1 q2 e1 e2 e3
  · by_cases e : p = s.p
    · subst e
      rw [hp] at e1
      simp at e1
    · simp only [e, if_false]
      rw [kidB_lay_else hn e] at hp
      exact h.nz p hp
end
end Go.Proofs.Ytplcohjpchfkkaa
