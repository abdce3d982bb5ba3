/- The reference's acts: the actors of both, rising. -/
import Derived.Test.YtbpepmajpojacaaVJoin
namespace Go.Proofs.Ytbpepmajpojacaa
open Go.RowKit
open Go.Sort (grow)

theorem Try.info3 : (Try.prog.info? 3).map (fun i => (i.zero, i.size, i.bytes)) = some (some (.int .i64 0), 1, 8) := by kernel_rfl

abbrev ints (l : List Int) : List Value := l.map (Value.int .i64)

theorem own_far' {w w' : World} {b e z : Nat} {v : Value} {n : Nat} {xs : List Value} (h : w.ownsRow b e z v n xs) (hf : Far w w') : w'.ownsRow b e z v n xs :=
  h.kept (far_grown hf) (by
    by_cases he : v.ownBlock = none
    · exact .inl he
    · exact .inr he)

/-- Part of the way through both. -/
structure AI (A B : List Dt) (i k : Nat) (l : List Int) : Prop where
  up : l.Pairwise (fun a b => a < b)
  mem : ∀ x, x ∈ l ↔ (∃ d ∈ A.take i, d.1 = x) ∨ (∃ d ∈ B.take k, d.1 = x)
  la : ∀ x ∈ l, ∀ e ∈ A.drop i, x < e.1
  lb : ∀ x ∈ l, ∀ e ∈ B.drop k, x < e.1
  len : l.length ≤ i + k

theorem AI.start (A B : List Dt) : AI A B 0 0 [] := ⟨List.Pairwise.nil, fun x => by simp, fun x hx => by simp at hx, fun x hx => by simp at hx, by simp⟩

theorem asc_snoc {l : List Int} {y : Int} (h : l.Pairwise (fun a b => a < b)) (hy : ∀ x ∈ l, x < y) : (l ++ [y]).Pairwise (fun a b => a < b) :=
  List.pairwise_append.2 ⟨h, List.pairwise_singleton _ _, fun a ha b hb => by simp at hb; rw [hb]; exact hy a ha⟩

theorem take_more {L : List Dt} {i : Nat} {d : Dt} (h : L[i]? = some d) (x : Int) : (∃ e ∈ L.take (i + 1), e.1 = x) ↔ (∃ e ∈ L.take i, e.1 = x) ∨ x = d.1 := by
  obtain ⟨hi, rfl⟩ := List.getElem?_eq_some_iff.1 h
  rw [take_snoc hi]
  constructor
  · rintro ⟨e, he, rfl⟩
    rcases List.mem_append.1 he with he | he
    · exact .inl ⟨e, he, rfl⟩
    · simp at he; exact .inr (by rw [he])
  · rintro (⟨e, he, rfl⟩ | rfl)
    · exact ⟨e, List.mem_append.2 (.inl he), rfl⟩
    · exact ⟨_, List.mem_append.2 (.inr (by simp)), rfl⟩

theorem drop_cons {L : List Dt} {i : Nat} {d : Dt} (h : L[i]? = some d) : L.drop i = d :: L.drop (i + 1) := by
  obtain ⟨hi, rfl⟩ := List.getElem?_eq_some_iff.1 h
  exact List.drop_eq_getElem_cons hi

theorem drop_up {L : List Dt} (h : VM L) {i : Nat} {d : Dt} (hd : L[i]? = some d) : ∀ e ∈ L.drop (i + 1), d.1 < e.1 := by
  have h1 : (L.drop i).Pairwise (fun a b : Dt => a.1 < b.1) := h.ac.sublist (List.drop_sublist i L)
  rw [drop_cons hd] at h1
  exact (List.pairwise_cons.1 h1).1

theorem drop_all {L : List Dt} (h : VM L) {k : Nat} {e : Dt} (he : L[k]? = some e) {y : Int} (hy : y < e.1) : ∀ q ∈ L.drop k, y < q.1 := fun q hq => by
  rw [drop_cons he] at hq
  rcases List.mem_cons.1 hq with rfl | hq
  · exact hy
  · have := drop_up h he q hq
    omega

theorem AI.left {A B : List Dt} {i k : Nat} {l : List Int} (h : AI A B i k l) (hA : VM A) {d : Dt} (hd : A[i]? = some d) (hb : ∀ e ∈ B.drop k, d.1 < e.1) : AI A B (i + 1) k (l ++ [d.1]) := by
  have hdr := drop_cons hd
  have hla := h.la
  rw [hdr] at hla
  refine ⟨asc_snoc h.up fun x hx => hla x hx d (by simp), fun x => ?_, fun x hx e he => ?_, fun x hx e he => ?_, by have := h.len; simp; omega⟩
  · rw [List.mem_append, h.mem, take_more hd]
    simp only [List.mem_singleton]
    constructor
    · rintro ((h | h) | h)
      · exact .inl (.inl h)
      · exact .inr h
      · exact .inl (.inr h)
    · rintro ((h | h) | h)
      · exact .inl (.inl h)
      · exact .inr h
      · exact .inl (.inr h)
  · rcases List.mem_append.1 hx with hx | hx
    · exact hla x hx e (List.mem_cons_of_mem _ he)
    · simp at hx; rw [hx]; exact drop_up hA hd e he
  · rcases List.mem_append.1 hx with hx | hx
    · exact h.lb x hx e he
    · simp at hx; rw [hx]; exact hb e he

theorem AI.right {A B : List Dt} {i k : Nat} {l : List Int} (h : AI A B i k l) (hB : VM B) {d : Dt} (hd : B[k]? = some d) (hb : ∀ e ∈ A.drop i, d.1 < e.1) : AI A B i (k + 1) (l ++ [d.1]) := by
  have hdr := drop_cons hd
  have hla := h.lb
  rw [hdr] at hla
  refine ⟨asc_snoc h.up fun x hx => hla x hx d (by simp), fun x => ?_, fun x hx e he => ?_, fun x hx e he => ?_, by have := h.len; simp; omega⟩
  · rw [List.mem_append, h.mem, take_more hd]
    simp only [List.mem_singleton]
    constructor
    · rintro ((h | h) | h)
      · exact .inl h
      · exact .inr (.inl h)
      · exact .inr (.inr h)
    · rintro (h | h | h)
      · exact .inl (.inl h)
      · exact .inl (.inr h)
      · exact .inr h
  · rcases List.mem_append.1 hx with hx | hx
    · exact h.la x hx e he
    · simp at hx; rw [hx]; exact hb e he
  · rcases List.mem_append.1 hx with hx | hx
    · exact hla x hx e (List.mem_cons_of_mem _ he)
    · simp at hx; rw [hx]; exact drop_up hB hd e he

theorem AI.both {A B : List Dt} {i k : Nat} {l : List Int} (h : AI A B i k l) (hA : VM A) (hB : VM B) {d e : Dt} (hd : A[i]? = some d) (he : B[k]? = some e) (hde : d.1 = e.1) : AI A B (i + 1) (k + 1) (l ++ [d.1]) := by
  have hla := h.la
  have hlb := h.lb
  rw [drop_cons hd] at hla
  rw [drop_cons he] at hlb
  refine ⟨asc_snoc h.up fun x hx => hla x hx d (by simp), fun x => ?_, fun x hx q hq => ?_, fun x hx q hq => ?_, by have := h.len; simp; omega⟩
  · rw [List.mem_append, h.mem, take_more hd, take_more he, ← hde]
    simp only [List.mem_singleton]
    constructor
    · rintro ((h | h) | h)
      · exact .inl (.inl h)
      · exact .inr (.inl h)
      · exact .inl (.inr h)
    · rintro ((h | h) | h | h)
      · exact .inl (.inl h)
      · exact .inr h
      · exact .inl (.inr h)
      · exact .inr h
  · rcases List.mem_append.1 hx with hx | hx
    · exact hla x hx q (List.mem_cons_of_mem _ hq)
    · simp at hx; rw [hx]; exact drop_up hA hd q hq
  · rcases List.mem_append.1 hx with hx | hx
    · exact hlb x hx q (List.mem_cons_of_mem _ hq)
    · simp at hx; rw [hx, hde]; exact drop_up hB he q hq

theorem AI.done {A B : List Dt} {l : List Int} (h : AI A B A.length B.length l) : l = ua A B :=
  asc_ext h.up (ua_up A B) fun x => by
    rw [h.mem, mem_ua, List.take_of_length_le (Nat.le_refl _), List.take_of_length_le (Nat.le_refl _)]

theorem cell_new (w : World) (x : Value) (T : TypeId) : ∀ j u, ([x] : List Value)[j]? = some u → (w.alloc (.cells #[x] T)).cell? ((⟨w.heap.size, 0, none⟩ : Addr).add j) = some u := by
  intro j u hj
  match j, hj with
  | 0, hj => simp at hj; subst hj; simp [Addr.add]

/-- append of one number to a row of the call's own. -/
theorem wpList_append_int {y : Int} {w : World} {ops : Array Oper} {rest : List Oper} {o : Oper} {a : Act} {Q : Exit → Act → World → Prop} (hgd : o.guard = none) (s x : Operand)
    (ho : o.op = .call { callee := .builtin .append, args := #[s, x], argTypes := #[45, 45] }) (base : Nat) (v : Value) (n : Nat) (xs : List Value) (hs : a.eval s = v) (w0 : World) (hw : w = w0.alloc (.cells #[.int .i64 y] 3)) (hown : w0.ownsRow base 3 1 v n xs)
    (hx : a.eval x = .slice (some ⟨w0.heap.size, 0, none⟩) 1 1) (hb : n ≤ 8000000) (hbase : base ≤ w0.heap.size)
    (h : ∀ v' w', w'.ownsRow base 3 1 v' (n + 1) (xs ++ [.int .i64 y]) → w.grownBy w' v.ownBlock → wpList Try.prog ops Q rest (a.put o.dst v') w') : wpList Try.prog ops Q (o :: rest) a w := by
  obtain ⟨i0, hi, hz0, hz1, hz2⟩ := info_parts Try.info3
  subst hw
  exact wpList_append_own _ hgd s x 45 ho base 3 i0 _ 1 8 Try.underlying45 hi hz0 hz1 hz2 rfl (by decide) v n xs hs (hown.alloc _) ⟨w0.heap.size, 0, none⟩ 1 1 [.int .i64 y] hx rfl (cell_new w0 _ 3) (by simp [Value.oneCell']) (by unfold maxLen; omega) (by omega) (by simp; omega)
      (fun v' w' h1 h2 _ => h v' w' h1 h2)

set_option maxRecDepth 100000 in
set_option maxHeartbeats 8000000 in
theorem acts_any (a : Option Addr) (n c : Nat) (A : List Dt) (a' : Option Addr) (n' c' : Nat) (B : List Dt) (w : World) (hs : PS w a n c A) (hn : n ≤ 1000000) (hs' : PS w a' n' c' B) (hn' : n' ≤ 1000000) (hA : VM A) (hB : VM B) :
    Calls Try.prog 73 #[.slice a n c, .slice a' n' c'] w fun e w' => ∃ v, e = .returned v ∧ w'.ownsRow w.heap.size 3 1 v (ua A B).length (ints (ua A B)) ∧ RowKit.Below w.heap.size w w' := by
  have mixed := mixed
  have HAB := hid (And.intro hA hB)
  have hS := hid (And.intro hs hs')
  have l1 := hs.len
  have l2 := hs'.len
  clear hA hB hs hs'
  go_enter Try.func73, Try.ntmps73
  go_wp2
  have HL := hid (And.intro l1 l2)
  clear l1 l2
  go_loopw [6, 7, 5] (fun s6 s7 s5 wr => ∃ (i k : Nat) (l : List Int), i ≤ n ∧ k ≤ n' ∧ s6 = .int .i64 i ∧ s7 = .int .i64 k ∧ Hid (AI A B i k l) ∧ Hid (wr.ownsRow w.heap.size 3 1 s5 l.length (ints l)) ∧ Hid (RowKit.Below w.heap.size w wr)) (fun s6 s7 _ _ => (n - (intOf s6).toNat) + (n' - (intOf s7).toNat))
  case atStart => exact ⟨0, 0, [], by omega, by omega, rfl, rfl, hid (AI.start A B), hid (World.ownsRow_nil _ _ _ _), hid (Below.refl _ _)⟩
  case round =>
    obtain ⟨i, k, l, hi, hk, rfl, rfl, hAI, hO, hbl⟩ := hrel
    have hlen := hAI.out.len
    have l1 := HL.out.1
    have l2 := HL.out.2
    by_cases hin : i < n
    · have hin1 : decide (i < n) = true := decide_eq_true hin
      have hinb : ((i : Int) == (n : Int)) = false := by simp; omega
      obtain ⟨g, o, rfl, hg, hcell⟩ := hS.out.1.at (by omega)
      have hA0 := hid (List.getElem?_eq_getElem (l := A) (i := i) (by omega))
      have cA := hid (fun W (hW : RowKit.Below w.heap.size w W) => (hW.cell (p := ⟨g, o + i * 2, none⟩) hg).trans (hcell i (by omega)).1)
      clear hcell
      generalize (A[i]'(by omega)) = d at hA0 cA
      obtain ⟨d1, d2⟩ := d
      simp only at cA
      by_cases hkn : k < n'
      · have hkn1 : decide (k < n') = true := decide_eq_true hkn
        have hknb : ((k : Int) == (n' : Int)) = false := by simp; omega
        obtain ⟨g', o', rfl, hg', hcell'⟩ := hS.out.2.at (by omega)
        have hB0 := hid (List.getElem?_eq_getElem (l := B) (i := k) (by omega))
        have cB := hid (fun W (hW : RowKit.Below w.heap.size w W) => (hW.cell (p := ⟨g', o' + k * 2, none⟩) hg').trans (hcell' k (by omega)).1)
        clear hcell'
        generalize (B[k]'(by omega)) = e at hB0 cB
        obtain ⟨e1, e2⟩ := e
        simp only at cB
        clear l1 l2
        by_cases hde : d1 < e1
        · have C0 := fun m os => cA.out _ (hbl.out.trans ((below_class wr m os).mono hbl.out.size))
          have E0 := fun m os => cB.out _ (hbl.out.trans ((below_class wr m os).mono hbl.out.size))
          have hde1 : decide (d1 < e1) = true := decide_eq_true hde
          go_wp2_with fail
          refine wp_region_quiet_grown mixed (by kernel_rfl) ?_
          repeat (go_big_quiet_step (fail))
          refine wpQuiet_nil ?_
          intro _ hw'
          obtain ⟨⟨n1, o1⟩, hw''⟩ := hw'
          subst hw''
          simp only []
          have hF1 : Far wr (grow (wr.drewN n1) o1) := (Far.refl wr).more n1 o1
          have hO1 := hid (own_far' hO.out hF1)
          have hB1 := hid (hbl.out.trans (hF1.below.mono hbl.out.size))
          clear hF1 C0 E0
          generalize grow (wr.drewN n1) o1 = W1 at hO1 hB1 ⊢
          have x0 := cA.out _ hB1.out
          go_wp2_with (first
            | (at_builtin; refine wpList_append_int (y := d1) rfl _ _ rfl w.heap.size _ l.length (ints l) rfl W1 rfl hO1.out rfl (by omega) hB1.out.size ?_; intro v5 w5 ho5 hg5))
          go_roundw
          case rel =>
            refine ⟨i + 1, k, l ++ [d1], by omega, by omega, by go_num, by go_num, hid (hAI.out.left HAB.out.1 hA0.out (drop_all HAB.out.2 hB0.out hde)), hid ?_, hid ?_⟩
            · rw [List.length_append, List.length_singleton, show ints (l ++ [d1]) = ints l ++ [.int .i64 d1] by simp [ints]]; exact ho5
            · exact (hB1.out.alloc hB1.out.size _).grown hg5 (by have := hB1.out.size; simp; omega) (fun j hj => (hO1.out.lt j hj).1)
          case measure => simp [intOf]; omega
        · have hde1 : decide (d1 < e1) = false := decide_eq_false hde
          by_cases hed : e1 < d1
          · have C0 := fun m os => cA.out _ (hbl.out.trans ((below_class wr m os).mono hbl.out.size))
            have E0 := fun m os => cB.out _ (hbl.out.trans ((below_class wr m os).mono hbl.out.size))
            have hed1 : decide (e1 < d1) = true := decide_eq_true hed
            go_wp2_with fail
            refine wp_region_quiet_grown mixed (by kernel_rfl) ?_
            repeat (go_big_quiet_step (fail))
            refine wpQuiet_nil ?_
            intro _ hw'
            obtain ⟨⟨n1, o1⟩, hw''⟩ := hw'
            subst hw''
            simp only []
            have hF1 : Far wr (grow (wr.drewN n1) o1) := (Far.refl wr).more n1 o1
            have hO1 := hid (own_far' hO.out hF1)
            have hB1 := hid (hbl.out.trans (hF1.below.mono hbl.out.size))
            clear hF1 C0 E0
            generalize grow (wr.drewN n1) o1 = W1 at hO1 hB1 ⊢
            have C0 := fun m os => cA.out _ (hB1.out.trans ((below_class W1 m os).mono hB1.out.size))
            have E0 := fun m os => cB.out _ (hB1.out.trans ((below_class W1 m os).mono hB1.out.size))
            go_wp2_with fail
            refine wp_region_quiet_grown mixed (by kernel_rfl) ?_
            repeat (go_big_quiet_step (fail))
            refine wpQuiet_nil ?_
            intro _ hw'
            obtain ⟨⟨n2, o2⟩, hw''⟩ := hw'
            subst hw''
            simp only []
            have hF2 : Far W1 (grow (W1.drewN n2) o2) := (Far.refl W1).more n2 o2
            have hO2 := hid (own_far' hO1.out hF2)
            have hB2 := hid (hB1.out.trans (hF2.below.mono hB1.out.size))
            clear hF2 C0 E0
            generalize grow (W1.drewN n2) o2 = W2 at hO2 hB2 ⊢
            have x0 := cB.out _ hB2.out
            go_wp2_with (first
              | (at_builtin; refine wpList_append_int (y := e1) rfl _ _ rfl w.heap.size _ l.length (ints l) rfl W2 rfl hO2.out rfl (by omega) hB2.out.size ?_; intro v5 w5 ho5 hg5))
            go_roundw
            case rel =>
              refine ⟨i, k + 1, l ++ [e1], by omega, by omega, by go_num, by go_num, hid (hAI.out.right HAB.out.2 hB0.out (drop_all HAB.out.1 hA0.out hed)), hid ?_, hid ?_⟩
              · rw [List.length_append, List.length_singleton, show ints (l ++ [e1]) = ints l ++ [.int .i64 e1] by simp [ints]]; exact ho5
              · exact (hB2.out.alloc hB2.out.size _).grown hg5 (by have := hB2.out.size; simp; omega) (fun j hj => (hO2.out.lt j hj).1)
            case measure => simp [intOf]; omega
          · have C0 := fun m os => cA.out _ (hbl.out.trans ((below_class wr m os).mono hbl.out.size))
            have E0 := fun m os => cB.out _ (hbl.out.trans ((below_class wr m os).mono hbl.out.size))
            have hed1 : decide (e1 < d1) = false := decide_eq_false hed
            have heq := hid (show d1 = e1 by omega)
            go_wp2_with fail
            refine wp_region_quiet_grown mixed (by kernel_rfl) ?_
            repeat (go_big_quiet_step (fail))
            refine wpQuiet_nil ?_
            intro _ hw'
            obtain ⟨⟨n1, o1⟩, hw''⟩ := hw'
            subst hw''
            simp only []
            have hF1 : Far wr (grow (wr.drewN n1) o1) := (Far.refl wr).more n1 o1
            have hO1 := hid (own_far' hO.out hF1)
            have hB1 := hid (hbl.out.trans (hF1.below.mono hbl.out.size))
            clear hF1 C0 E0
            generalize grow (wr.drewN n1) o1 = W1 at hO1 hB1 ⊢
            have C0 := fun m os => cA.out _ (hB1.out.trans ((below_class W1 m os).mono hB1.out.size))
            have E0 := fun m os => cB.out _ (hB1.out.trans ((below_class W1 m os).mono hB1.out.size))
            go_wp2_with fail
            refine wp_region_quiet_grown mixed (by kernel_rfl) ?_
            repeat (go_big_quiet_step (fail))
            refine wpQuiet_nil ?_
            intro _ hw'
            obtain ⟨⟨n2, o2⟩, hw''⟩ := hw'
            subst hw''
            simp only []
            have hF2 : Far W1 (grow (W1.drewN n2) o2) := (Far.refl W1).more n2 o2
            have hO2 := hid (own_far' hO1.out hF2)
            have hB2 := hid (hB1.out.trans (hF2.below.mono hB1.out.size))
            clear hF2 C0 E0
            generalize grow (W1.drewN n2) o2 = W2 at hO2 hB2 ⊢
            have x0 := cA.out _ hB2.out
            go_wp2_with (first
              | (at_builtin; refine wpList_append_int (y := d1) rfl _ _ rfl w.heap.size _ l.length (ints l) rfl W2 rfl hO2.out rfl (by omega) hB2.out.size ?_; intro v5 w5 ho5 hg5))
            go_roundw
            case rel =>
              refine ⟨i + 1, k + 1, l ++ [d1], by omega, by omega, by go_num, by go_num, hid (hAI.out.both HAB.out.1 HAB.out.2 hA0.out hB0.out heq.out), hid ?_, hid ?_⟩
              · rw [List.length_append, List.length_singleton, show ints (l ++ [d1]) = ints l ++ [.int .i64 d1] by simp [ints]]; exact ho5
              · exact (hB2.out.alloc hB2.out.size _).grown hg5 (by have := hB2.out.size; simp; omega) (fun j hj => (hO2.out.lt j hj).1)
            case measure => simp [intOf]; omega
      · obtain rfl : k = n' := by omega
        have hend := hid (show B.drop k = [] from List.drop_of_length_le (by omega))
        clear l1 l2
        have C0 := fun m os => cA.out _ (hbl.out.trans ((below_class wr m os).mono hbl.out.size))
        go_wp2_with fail
        refine wp_region_quiet_grown mixed (by kernel_rfl) ?_
        repeat (go_big_quiet_step (fail))
        refine wpQuiet_nil ?_
        intro _ hw'
        obtain ⟨⟨n1, o1⟩, hw''⟩ := hw'
        subst hw''
        simp only []
        have hF1 : Far wr (grow (wr.drewN n1) o1) := (Far.refl wr).more n1 o1
        have hO1 := hid (own_far' hO.out hF1)
        have hB1 := hid (hbl.out.trans (hF1.below.mono hbl.out.size))
        clear hF1 C0 
        generalize grow (wr.drewN n1) o1 = W1 at hO1 hB1 ⊢
        have x0 := cA.out _ hB1.out
        go_wp2_with (first
          | (at_builtin; refine wpList_append_int (y := d1) rfl _ _ rfl w.heap.size _ l.length (ints l) rfl W1 rfl hO1.out rfl (by omega) hB1.out.size ?_; intro v5 w5 ho5 hg5))
        go_roundw
        case rel =>
          refine ⟨i + 1, k, l ++ [d1], by omega, by omega, by go_num, by go_num, hid (hAI.out.left HAB.out.1 hA0.out (fun e he => by rw [hend.out] at he; simp at he)), hid ?_, hid ?_⟩
          · rw [List.length_append, List.length_singleton, show ints (l ++ [d1]) = ints l ++ [.int .i64 d1] by simp [ints]]; exact ho5
          · exact (hB1.out.alloc hB1.out.size _).grown hg5 (by have := hB1.out.size; simp; omega) (fun j hj => (hO1.out.lt j hj).1)
        case measure => simp [intOf]; omega
    · obtain rfl : i = n := by omega
      by_cases hkn : k < n'
      · have hkn1 : decide (k < n') = true := decide_eq_true hkn
        have hknb : ((k : Int) == (n' : Int)) = false := by simp; omega
        obtain ⟨g', o', rfl, hg', hcell'⟩ := hS.out.2.at (by omega)
        have hB0 := hid (List.getElem?_eq_getElem (l := B) (i := k) (by omega))
        have cB := hid (fun W (hW : RowKit.Below w.heap.size w W) => (hW.cell (p := ⟨g', o' + k * 2, none⟩) hg').trans (hcell' k (by omega)).1)
        clear hcell'
        generalize (B[k]'(by omega)) = e at hB0 cB
        obtain ⟨e1, e2⟩ := e
        simp only at cB
        have hend := hid (show A.drop i = [] from List.drop_of_length_le (by omega))
        clear l1 l2
        have E0 := fun m os => cB.out _ (hbl.out.trans ((below_class wr m os).mono hbl.out.size))
        go_wp2_with fail
        refine wp_region_quiet_grown mixed (by kernel_rfl) ?_
        repeat (go_big_quiet_step (fail))
        refine wpQuiet_nil ?_
        intro _ hw'
        obtain ⟨⟨n1, o1⟩, hw''⟩ := hw'
        subst hw''
        simp only []
        have hF1 : Far wr (grow (wr.drewN n1) o1) := (Far.refl wr).more n1 o1
        have hO1 := hid (own_far' hO.out hF1)
        have hB1 := hid (hbl.out.trans (hF1.below.mono hbl.out.size))
        clear hF1 E0
        generalize grow (wr.drewN n1) o1 = W1 at hO1 hB1 ⊢
        have E0 := fun m os => cB.out _ (hB1.out.trans ((below_class W1 m os).mono hB1.out.size))
        go_wp2_with fail
        refine wp_region_quiet_grown mixed (by kernel_rfl) ?_
        repeat (go_big_quiet_step (fail))
        refine wpQuiet_nil ?_
        intro _ hw'
        obtain ⟨⟨n2, o2⟩, hw''⟩ := hw'
        subst hw''
        simp only []
        have hF2 : Far W1 (grow (W1.drewN n2) o2) := (Far.refl W1).more n2 o2
        have hO2 := hid (own_far' hO1.out hF2)
        have hB2 := hid (hB1.out.trans (hF2.below.mono hB1.out.size))
        clear hF2 E0
        generalize grow (W1.drewN n2) o2 = W2 at hO2 hB2 ⊢
        have x0 := cB.out _ hB2.out
        go_wp2_with (first
          | (at_builtin; refine wpList_append_int (y := e1) rfl _ _ rfl w.heap.size _ l.length (ints l) rfl W2 rfl hO2.out rfl (by omega) hB2.out.size ?_; intro v5 w5 ho5 hg5))
        go_roundw
        case rel =>
          refine ⟨i, k + 1, l ++ [e1], by omega, by omega, by go_num, by go_num, hid (hAI.out.right HAB.out.2 hB0.out (fun e he => by rw [hend.out] at he; simp at he)), hid ?_, hid ?_⟩
          · rw [List.length_append, List.length_singleton, show ints (l ++ [e1]) = ints l ++ [.int .i64 e1] by simp [ints]]; exact ho5
          · exact (hB2.out.alloc hB2.out.size _).grown hg5 (by have := hB2.out.size; simp; omega) (fun j hj => (hO2.out.lt j hj).1)
        case measure => simp [intOf]; omega
      · obtain rfl : k = n' := by omega
        have hdone := hid (show l = ua A B from AI.done (by rw [l1, l2]; exact hAI.out))
        clear l1 l2
        go_wp2_with fail
        go_ret
        rw [← hdone.out]
        exact ⟨_, rfl, hO.out, hbl.out⟩

end Go.Proofs.Ytbpepmajpojacaa
