/- What is known of an actor: with, but; a map of such by actors. -/
import Derived.Test.YtlncokkpdkddlaaGreatORow
import Derived.Test.YtlncokkpdkddlaaGreatMRow
namespace Go.Proofs.YtlncokkpdkddlaaGreat
open Go.RowKit Go.Maps Go.WideElems

/-- How many, whose, how many of others. -/
abbrev Kn := Int × Dt × Int
abbrev kv (k : Kn) : Value := .agg #[.int .i64 k.1, .int .i64 k.2.1.1, .int .i64 k.2.1.2, .int .i64 k.2.2]

def kwith (k : Kn) (seq : Int) (by_ : Dt) : Kn := if by_ = k.2.1 then (max seq k.1, by_, k.2.2) else if k.1 < seq then (seq, by_, k.1) else (k.1, k.2.1, max seq k.2.2)
def kbut (k : Kn) (by_ : Dt) : Int := if by_ = k.2.1 then k.2.2 else k.1

set_option maxRecDepth 100000 in
set_option maxHeartbeats 1000000 in
theorem but_any (k : Kn) (d : Dt) (w : World) : Tells 38 #[kv k, dv d] w (.int .i64 (kbut k d)) := by
  obtain ⟨a, ⟨b, c⟩, e⟩ := k
  obtain ⟨d1, d2⟩ := d
  by_cases h1 : d1 = b
  · by_cases h2 : d2 = c
    · subst h1 h2
      have hr : Hid (kbut (a, (d1, d2), e) (d1, d2) = e) := hid (by simp [kbut])
      go_enter Tryz.func38, Tryz.ntmps38
      go_wp2
      go_ret
      exact ⟨by rw [hr.out]; rfl, ((Far.refl w).alloc _).alloc _⟩
    · subst h1
      have hr : Hid (kbut (a, (d1, c), e) (d1, d2) = a) := hid (by simp [kbut, h2])
      have g2 : (d2 == c) = false := by simp [h2]
      go_enter Tryz.func38, Tryz.ntmps38
      go_wp2
      go_ret
      exact ⟨by rw [hr.out]; rfl, ((Far.refl w).alloc _).alloc _⟩
  · have hr : Hid (kbut (a, (b, c), e) (d1, d2) = a) := hid (by simp [kbut, h1])
    have g1 : (d1 == b) = false := by simp [h1]
    go_enter Tryz.func38, Tryz.ntmps38
    go_wp2
    go_ret
    exact ⟨by rw [hr.out]; rfl, ((Far.refl w).alloc _).alloc _⟩

set_option maxRecDepth 100000 in
set_option maxHeartbeats 1000000 in
theorem kwith_any (k : Kn) (s : Int) (d : Dt) (w : World) : Tells 34 #[kv k, .int .i64 s, dv d] w (kv (kwith k s d)) := by
  obtain ⟨a, ⟨b, c⟩, e⟩ := k
  obtain ⟨d1, d2⟩ := d
  by_cases h1 : d1 = b ∧ d2 = c
  · obtain ⟨rfl, rfl⟩ := h1
    have hr : Hid (kwith (a, (d1, d2), e) s (d1, d2) = (max s a, (d1, d2), e)) := hid (by simp [kwith])
    go_enter Tryz.func34, Tryz.ntmps34
    by_cases hm : s < a
    · have hx : max s a = a := by omega
      rw [hx] at hr
      go_wp2
      refine bodyPost_ret (v := kv (a, (d1, d2), e)) (by simp [results, Tryz.results34, go_sem]) rfl ⟨by rw [hr.out], (((Far.refl w).alloc _).alloc _).alloc _⟩
    · have hx : max s a = s := by omega
      rw [hx] at hr
      go_wp2
      refine bodyPost_ret (v := kv (s, (d1, d2), e)) (by simp [results, Tryz.results34, go_sem]) rfl ⟨by rw [hr.out], (((Far.refl w).alloc _).alloc _).alloc _⟩
  · have hne : ¬ ((d1, d2) : Dt) = (b, c) := fun h => h1 (by simpa using h)
    by_cases h2 : a < s
    · have hr : Hid (kwith (a, (b, c), e) s (d1, d2) = (s, (d1, d2), a)) := hid (by unfold kwith; rw [if_neg hne, if_pos h2])
      clear hne
      by_cases h3 : d1 = b
      · have h4 : ¬ d2 = c := fun h => h1 ⟨h3, h⟩
        subst h3
        have g2 : (d2 == c) = false := by simp [h4]
        clear h1 h4
        go_enter Tryz.func34, Tryz.ntmps34
        go_wp2
        refine bodyPost_ret (v := kv (s, (d1, d2), a)) (by simp [results, Tryz.results34, go_sem]) rfl ⟨by rw [hr.out], (((Far.refl w).alloc _).alloc _).alloc _⟩
      · have g1 : (d1 == b) = false := by simp [h3]
        clear h1
        go_enter Tryz.func34, Tryz.ntmps34
        go_wp2
        refine bodyPost_ret (v := kv (s, (d1, d2), a)) (by simp [results, Tryz.results34, go_sem]) rfl ⟨by rw [hr.out], (((Far.refl w).alloc _).alloc _).alloc _⟩
    · by_cases hm : s < e
      · have hx : max s e = e := by omega
        have hr : Hid (kwith (a, (b, c), e) s (d1, d2) = (a, (b, c), max s e)) := hid (by unfold kwith; rw [if_neg hne, if_neg h2])
        rw [hx] at hr
        by_cases h3 : d1 = b
        · have h4 : ¬ d2 = c := fun h => h1 ⟨h3, h⟩
          subst h3
          have g2 : (d2 == c) = false := by simp [h4]
          clear h1 h4 hne hx
          go_enter Tryz.func34, Tryz.ntmps34
          go_wp2
          refine bodyPost_ret (v := kv (a, (d1, c), e)) (by simp [results, Tryz.results34, go_sem]) rfl ⟨by rw [hr.out], (((Far.refl w).alloc _).alloc _).alloc _⟩
        · have g1 : (d1 == b) = false := by simp [h3]
          clear h1 hne hx
          go_enter Tryz.func34, Tryz.ntmps34
          go_wp2
          refine bodyPost_ret (v := kv (a, (b, c), e)) (by simp [results, Tryz.results34, go_sem]) rfl ⟨by rw [hr.out], (((Far.refl w).alloc _).alloc _).alloc _⟩
      · have hx : max s e = s := by omega
        have hr : Hid (kwith (a, (b, c), e) s (d1, d2) = (a, (b, c), max s e)) := hid (by unfold kwith; rw [if_neg hne, if_neg h2])
        rw [hx] at hr
        by_cases h3 : d1 = b
        · have h4 : ¬ d2 = c := fun h => h1 ⟨h3, h⟩
          subst h3
          have g2 : (d2 == c) = false := by simp [h4]
          clear h1 h4 hne hx
          go_enter Tryz.func34, Tryz.ntmps34
          go_wp2
          refine bodyPost_ret (v := kv (a, (d1, c), s)) (by simp [results, Tryz.results34, go_sem]) rfl ⟨by rw [hr.out], (((Far.refl w).alloc _).alloc _).alloc _⟩
        · have g1 : (d1 == b) = false := by simp [h3]
          clear h1 hne hx
          go_enter Tryz.func34, Tryz.ntmps34
          go_wp2
          refine bodyPost_ret (v := kv (a, (b, c), s)) (by simp [results, Tryz.results34, go_sem]) rfl ⟨by rw [hr.out], (((Far.refl w).alloc _).alloc _).alloc _⟩

/-- How such a one reads, as an element of a map. -/
def kd (k : Kn) : DataW Unit := .agg [.lit (.int .i64 k.1), .lit (.int .i64 k.2.1.1), .lit (.int .i64 k.2.1.2), .lit (.int .i64 k.2.2)]
def kR (v : Value) : Option (DataW Unit × List MemPlace) :=
  match v with
  | .agg ⟨[.int .i64 a, .int .i64 b, .int .i64 c, .int .i64 d]⟩ => some (kd (a, (b, c), d), [])
  | _ => none

theorem kR_mk (k : Kn) : kR (kv k) = some (kd k, []) := rfl

theorem kd_inj {k k' : Kn} (h : kd k = kd k') : k = k' := by
  obtain ⟨a, ⟨b, c⟩, d⟩ := k
  obtain ⟨a', ⟨b', c'⟩, d'⟩ := k'
  simp [kd] at h
  simp [h]

theorem kR_inv {v : Value} {k : Kn} {ps : List MemPlace} (h : kR v = some (kd k, ps)) : v = kv k := by
  unfold kR at h
  split at h
  · rename_i a b c d
    have h1 : kd (a, (b, c), d) = kd k := by simpa using congrArg Prod.fst (Option.some.inj h)
    rw [← kd_inj h1]
  · cases h

theorem lawI : Keyed Tryz.prog 3 := int_keyed Tryz.underlying3

/-- Block b is a map of at most n actors, that tells f. -/
def MK (w : World) (b n : Nat) (f : Int → Kn) : Prop := ∃ D : DataW Unit, w.ownsMap Tryz.prog 3 kR b n D ∧ ∀ a : Int, (Lit.int .i64 a).wf = true → D.atKey (.int .i64 a) (kd (0, (0, 0), 0)) = kd (f a)

theorem zeroKn (w : World) : (zeroValue 66).run Tryz.prog w = .ok (kv (0, (0, 0), 0)) w := Tryz.zeroValue66 w

theorem MK.made (w : World) : MK (w.alloc (.map #[] 0)) w.heap.size 0 (fun _ => (0, (0, 0), 0)) := ⟨_, World.ownsMap_made _ _ _ _, fun _ _ => rfl⟩

theorem MK.lt {w : World} {b n : Nat} {f : Int → Kn} (h : MK w b n f) : b < w.heap.size := by
  obtain ⟨D, ho, _⟩ := h
  exact ho.lt

theorem MK.same {w w' : World} {b n : Nat} {f : Int → Kn} (h : MK w b n f) (hs : w'.heap[b]? = w.heap[b]?) : MK w' b n f := by
  obtain ⟨D, ⟨es, clock, h1, h2⟩, hT⟩ := h
  exact ⟨D, ⟨es, clock, by rw [hs]; exact h1, h2⟩, hT⟩

theorem MK.look {w : World} {b n : Nat} {f : Int → Kn} (h : MK w b n f) {a : Int} (ha : (Lit.int .i64 a).wf = true) : (Instr.lookup 64 (.map (some b)) (.int .i64 a) false).run Tryz.prog w = .ok (kv (f a)) w := by
  obtain ⟨D, ho, hT⟩ := h
  obtain ⟨v, ps, hr, hv⟩ := ho.lookup lawI Tryz.underlying64 (zeroKn w) (kR_mk (0, (0, 0), 0)) (keyOf_int_mk Tryz.underlying3 ha)
  rw [hT a ha] at hv
  rw [hr, kR_inv hv]

theorem MK.put {w : World} {b n : Nat} {f : Int → Kn} (h : MK w b n f) {a : Int} (ha : (Lit.int .i64 a).wf = true) (k : Kn) (hn : n < maxLen) : ∃ w', (Instr.mapUpdate 64 (.map (some b)) (.int .i64 a) (kv k)).run Tryz.prog w = .ok () w' ∧ MK w' b (n + 1) (fun e => if e = a then k else f e) ∧ w.grownBy w' (some b) := by
  obtain ⟨D, ho, hT⟩ := h
  obtain ⟨w', hr, ho', hg⟩ := ho.update lawI Tryz.underlying64 hn (keyOf_int_mk Tryz.underlying3 ha) (kR_mk k)
  refine ⟨w', hr, ⟨_, ho', fun e he => ?_⟩, hg⟩
  by_cases hea : e = a
  · subst hea
    rw [atKey_put_same ho.isMap (lawI.key (keyOf_int_mk Tryz.underlying3 he))]
    simp
  · rw [atKey_put_other (by simpa using hea), hT e he]
    simp [hea]
end Go.Proofs.YtlncokkpdkddlaaGreat
