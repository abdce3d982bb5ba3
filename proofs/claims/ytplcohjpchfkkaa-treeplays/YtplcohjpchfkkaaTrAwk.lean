/- The first look: what its calls tell. No function of the program but those of the tree. -/
import Derived.Test.YtplcohjpchfkkaaMRow
import Derived.Test.YtplcohjpchfkkaaMShelf
import Derived.Test.YtplcohjpchfkkaaTrPlaces
import Derived.Test.YtplcohjpchfkkaaMKeys
import Derived.ProofKit
import Derived.OpenShut
import Derived.Deep.SlicePairs
import Derived.Lib.SmallJoins
import Derived.Test.YtplcohjpchfkkaaRows
namespace Go.Proofs.Ytplcohjpchfkkaa
section
open Go.RowKit
open Go.Sort (grow ahead putRow putCells mapBlock onCells Holds HoldsK flatK putRowK PermIn SortedIn SWO size_flatK get_flatK heap_grow_old)

/-- A dot's two cells. -/
def encD (x : Dt) : List Value := [.int .i64 x.1, .int .i64 x.2]

theorem lt_cfd (x y : Dt) : ltOf cfd x y = dl x y := by
  unfold ltOf cfd
  by_cases h : x = y
  · subst h; simp [dl_irrefl]
  · by_cases h2 : dl x y = true
    · simp [h, h2]
    · simp [h, h2]

theorem swo_cfd : SWO (ltOf cfd) := by
  refine ⟨fun x => ?_, fun x y z h1 h2 => ?_, fun x y z h1 h2 => ?_⟩
  · rw [lt_cfd]; exact dl_irrefl x
  · rw [lt_cfd] at *; exact dl_trans h1 h2
  · rw [lt_cfd] at *
    have k1 : ¬ dl x y = true := by rw [h1]; simp
    have k2 : ¬ dl y z = true := by rw [h2]; simp
    cases hh : dl x z
    · rfl
    · rw [dl_iff] at *; omega

theorem cmp_lays (blk off size : Nat) (w : World) : CmpLays Try.prog 79 #[] encD 2 cfd blk off size w := fun _ _ _ _ x y =>
  (dorder_any x y _).mono fun _ _ ⟨he, q, os, hw⟩ => ⟨he, q, os, hw⟩

theorem flatK_list (d : Array Dt) : (flatK encD 2 d).toList = flat d.toList := by
  apply List.ext_getElem?
  intro t
  by_cases ht : t < d.size * 2
  · have h1 : (flatK encD 2 d)[t]! = (encD d[t / 2]!)[t % 2]! := get_flatK encD 2 d t ht
    have hi : t / 2 < d.toList.length := by simp; omega
    have hi' : t / 2 < d.size := by omega
    obtain ⟨f1, f2⟩ := flat_get d.toList (t / 2) hi
    have e0 : (flatK encD 2 d).toList[t]? = some ((flatK encD 2 d)[t]!) := by
      rw [Array.getElem?_toList, getElem!_pos _ t (by rw [size_flatK]; exact ht), Array.getElem?_eq_getElem (by rw [size_flatK]; exact ht)]
    rw [e0, h1, getElem!_pos d (t / 2) hi']
    rcases Nat.mod_two_eq_zero_or_one t with hm | hm
    · have : t = t / 2 * 2 := by omega
      rw [hm]
      conv => rhs; rw [this]
      rw [f1]
      simp [encD]
    · have : t = t / 2 * 2 + 1 := by omega
      rw [hm]
      conv => rhs; rw [this]
      rw [f2]
      simp [encD]
  · rw [List.getElem?_eq_none (by rw [Array.length_toList, size_flatK]; omega), List.getElem?_eq_none (by rw [flat_length, Array.length_toList]; omega)]

theorem holds_own {w : World} {base g c : Nat} {ds : List Dt} (h : Own w base g ds.length c ds) : HoldsK encD 2 w g 0 ds.toArray := by
  rcases h.2 with ⟨h0, _⟩ | ⟨g', cap', cur, hv, hg, hb, hn, hcap, hsz, ht⟩
  · cases h0
  · cases hv
    intro j hj
    rw [size_flatK] at hj
    have hj' : j < ds.length * 2 := by simpa using hj
    refine ⟨?_, by simp [World.frozen?, hb]⟩
    have h1 : (cur.toList.take (ds.length * 2))[j]? = (flat ds)[j]? := by rw [ht]
    rw [List.getElem?_take_of_lt hj'] at h1
    simp only [World.cell?, hb, Nat.zero_add]
    simp only [Option.isSome_none, Bool.false_eq_true, if_false]
    rw [← Array.getElem?_toList, h1]
    have e := flatK_list ds.toArray
    have e2 : ds.toArray.toList = ds := rfl
    rw [e2] at e
    rw [← e, Array.getElem?_toList, getElem!_pos _ j (by rw [size_flatK]; exact hj), Array.getElem?_eq_getElem (by rw [size_flatK]; exact hj)]
    rfl

theorem sorted_up {ts : List Dt} (hn : ts.Nodup) (h : SortedIn (ltOf cfd) 0 ts.toArray.size ts.toArray) : Up ts := by
  refine List.pairwise_iff_getElem.2 fun i j hi hj hij => ?_
  have := h i j (Nat.zero_le _) hij (by simpa using hj)
  rw [lt_cfd, getElem!_pos _ j (by simpa using hj), getElem!_pos _ i (by simpa using hi)] at this
  have hne : ts[j] ≠ ts[i] := fun e => by
    have := (List.getElem_inj hn).1 e
    omega
  exact dl_total hne (by simpa using this)

theorem heap_sortedK {w : World} {g n : Nat} {os : Array Obj} {cur : Array Value} {e : TypeId} {fr : Nat × Nat} (d : Array Dt) (hb : w.heap[g]? = some (.cells cur e fr)) :
    (sortWorldK encD 2 w g 0 n d os).heap[g]? = some (.cells (putCells id 0 (flatK encD 2 d) cur) e fr) := by
  have hg : g < w.heap.size := (Array.getElem?_eq_some_iff.1 hb).1
  unfold sortWorldK putRowK
  rw [heap_grow_old _ _ (by simpa using hg)]
  simp [putRow, mapBlock, Array.getElem?_modify, hb, onCells]

theorem grownBy_sortedK {w : World} {g n : Nat} {os : Array Obj} (d : Array Dt) : w.grownBy (sortWorldK encD 2 w g 0 n d os) (some g) := by
  unfold sortWorldK putRowK
  refine ⟨rfl, rfl, rfl, by simp, fun k hk hne => ?_⟩
  rw [heap_grow_old _ _ (by simpa using hk)]
  have : g ≠ k := fun e => hne (by rw [e])
  simp [putRow, mapBlock, Array.getElem?_modify, this]

theorem take_putK (cur : Array Value) (ts : List Dt) (h : ts.length * 2 ≤ cur.size) : (putCells id 0 (flatK encD 2 ts.toArray) cur).toList.take (ts.length * 2) = flat ts := by
  have e : (flatK encD 2 ts.toArray).toList = flat ts := flatK_list ts.toArray
  apply List.ext_getElem?
  intro j
  by_cases hj : j < ts.length * 2
  · rw [List.getElem?_take_of_lt hj, Array.getElem?_toList, ← e, Array.getElem?_toList]
    simp [putCells, hj, show j < cur.size by omega]
  · rw [List.getElem?_take_eq_none (by omega), List.getElem?_eq_none (by rw [flat_length]; omega)]

set_option maxHeartbeats 1000000 in
theorem sortSays : SortSays := by
  intro base g c ds w hown hnd hsz
  have eg : ∀ args w, (callFunc 79 args).run Try.prog w = .ok (.enter 79 args) w := enters_of Try.func79 (by kernel_rfl) rfl
  have hgl : g < w.heap.size := (hown.lt g rfl).2
  have hcon := AnyQ.slices_SortFunc lays 2 Try.isAgg24 Try.sizeOf24 encD (fun _ => rfl) (fun x v hv => by simp [encD] at hv; rcases hv with rfl | rfl <;> rfl) cfd swo_cfd 79 #[] g 0 c ds.toArray w eg (cmp_lays g 0 ds.toArray.size w) (holds_own hown) hgl (by simp; omega)
  refine Calls.mono hcon ?_
  rintro e w' ⟨rfl, d', n, os, hp, hs, rfl⟩
  have hsize : d'.size = ds.length := by simpa using hp.1
  have hperm : d'.toList.Perm ds := by
    have := hp.2.2
    have e1 : ds.take d'.size = ds := by rw [hsize, List.take_length]
    simpa [← hsize, e1] using this
  have hup : Up d'.toList := sorted_up (hperm.nodup_iff.2 hnd) (by simpa [hsize] using hs)
  have hrise : d'.toList = rise ds := eq_rise hup (fun d => hperm.mem_iff)
  refine ⟨rfl, ?_, grownBy_sortedK _⟩
  rcases hown.2 with ⟨h0, _⟩ | ⟨g', cap', cur, hv, hg, hb, hn, hcap, hcs, ht⟩
  · cases h0
  · cases hv
    refine ⟨by rw [flat_length, nodup_rise_length hnd], .inr ⟨g, c, _, rfl, hg, heap_sortedK _ hb, hn, hcap, by simp [putCells, hcs], ?_⟩⟩
    rw [← hrise, ← hsize]
    have := take_putK cur d'.toList (by rw [Array.length_toList, hsize]; omega)
    simpa using this
end

section
open Go.RowKit Go.Sort Go.Maps

theorem Own.base {w : World} {b b' g n c : Nat} {L : List Dt} (h : Own w b g n c L) (hb : b' ≤ b) : Own w b' g n c L := by
  obtain ⟨h1, h2⟩ := h
  refine ⟨h1, ?_⟩
  rcases h2 with h2 | ⟨g', cap', cur, hv, hg, r⟩
  · exact .inl h2
  · exact .inr ⟨g', cap', cur, hv, Nat.le_trans hb hg, r⟩

/-- A call answers a new slice that holds L. -/
def GivesN (w : World) (L : List Dt) (e : Ending) (w' : World) : Prop :=
  ∃ g c, e = .returned (.slice (some ⟨g, 0, none⟩) L.length c) ∧ Own w' w.heap.size g L.length c L ∧ Below w.heap.size w w'

set_option maxHeartbeats 1000000 in
theorem rising_any (a : Option Addr) (n c : Nat) (L : List Dt) (w : World) (hs : PS w a n c L) (hd : Dws L) (hn : n ≤ 1000000) :
    Calls Try.prog 36 #[.slice a n c] w (GivesN w (rise L)) := by
  have hp := places_any a n c L w hs hd hn
  go_enter Try.func36, Try.ntmps36
  go_wp2_with (first
    | (go_at_call 57; refine (row_any sortSays _ n (pl L) L w1 hdm (fun d _ => pl_some L d) hd hn).mono ?_; rintro e w2 ⟨g, c2, rfl, ho, b2⟩)
    | (go_at_call 58; refine hp.mono ?_; rintro e w1 ⟨rfl, hdm, b1⟩))
  go_ret
  exact ⟨g, c2, rfl, ho.base b1.size, below2 b1 b2⟩
end

section
set_option linter.unusedVariables false
set_option linter.unusedSimpArgs false
open Go.RowKit

/-- All blocks, by their identities. -/
def blks (l : List Mv) : List Dt := rise ((run l).map Sp.b)

theorem keys_rise {S S' : List Sp} (hp : S.Perm S') (hn : (S.map Sp.b).Nodup) (hd : ∀ x ∈ S, Dw x.b) {xs : List Dt} (h : KeysOfS S xs) : rise xs = rise (S'.map Sp.b) := by
  refine up_ext (up_rise _) (up_rise _) (fun d => ?_)
  rw [mem_rise, mem_rise]
  have e : ∀ d, d ∈ S'.map Sp.b ↔ (lk S d).isSome = true := fun d => by
    rw [lk_perm hn hp d]
    cases hl : lk S' d with
    | none =>
      simp only [Option.isSome_none, Bool.false_eq_true, iff_false]
      intro hm
      obtain ⟨s, hs, e⟩ := List.mem_map.1 hm
      exact lk_none.1 hl s hs e
    | some q =>
      obtain ⟨s, hs, e, _⟩ := lk_some hl
      simp only [Option.isSome_some, iff_true]
      exact List.mem_map.2 ⟨s, hs, e⟩
  rw [e]
  constructor
  · intro hm
    exact (h.2.2 d (h.2.1 d hm)).1 hm
  · intro hm
    have hm' := hm
    rw [← e] at hm'
    obtain ⟨s, hs, e2⟩ := List.mem_map.1 ((hp.map Sp.b).mem_iff.2 hm')
    refine (h.2.2 d ?_).2 hm
    rw [← e2]
    exact hd s hs

set_option maxRecDepth 100000 in
set_option maxHeartbeats 4000000 in
theorem blocks_tt (t : Nat) (l : List Mv) (A : Nat → Prop) (w : World) (h : TT w t l A) :
    Calls Try.prog 14 #[.pointer (some ⟨t, 0, none⟩)] w fun e w' => ∃ A', RowOf w w' A' (blks l) e ∧ TT w' t l A' ∧ KA w w' A A' := by
  have HN := (now_tt h).mono (R' := fun e W1 => e = .returned (.pointer (some ⟨t, 3, none⟩)) ∧ ∃ mo, W1.cell? ⟨t, 3, none⟩ = some (.map mo) ∧ Calls Try.prog 38 #[.map mo] W1 fun e W2 => e = .returned (.func (.func 60) #[] #[.pointer (some ⟨W1.heap.size, 0, none⟩)]) ∧ Calls Try.prog 37 #[.func (.func 60) #[] #[.pointer (some ⟨W1.heap.size, 0, none⟩)]] W2 fun e W3 => ∃ v, e = .returned v ∧ Calls Try.prog 36 #[v] W3 fun e W4 => ∃ v', e = .returned v' ∧ Hid (∃ A', RowOf w W4 A' (blks l) (.returned v') ∧ TT W4 t l A' ∧ KA w W4 A A')) (fun e W1 hh => by
    obtain ⟨e1, gs, S, lg, fd, pl, kd, fl, B, A', h1, h2, h3, h4, h5⟩ := hh
    obtain ⟨q1, q2, q3, q4⟩ := h1.lk_run
    obtain ⟨r, hr⟩ := h1.tk
    obtain ⟨s1, s2, s3⟩ := h1.spots
    have htb := h1.tb
    unfold TB at htb
    obtain ⟨mo, rfl⟩ : ∃ mo, pl = .map mo := by
      rcases h1.sb.v with ⟨e, _⟩ | ⟨m, e, _⟩
      · exact ⟨_, e⟩
      · exact ⟨_, e⟩
    refine ⟨e1, mo, by simp [World.cell?, htb], (keys_made mo W1).mono ?_⟩
    rintro e W2 ⟨e2, hW2⟩
    have hb2 : Below W1.heap.size W1 W2 := by rw [hW2]; exact (Below.refl _ W1).alloc (Nat.le_refl _) _
    have hm2 : W2.heap[W1.heap.size]? = some (.cells #[.map mo] 63 (0, 0)) := by rw [hW2]; exact World.alloc_heap_new W1 _
    refine ⟨e2, (collect_any W1.heap.size (.map mo) S W2 (by simp [World.cell?, hm2]) (h1.sb.v.below hb2) (by omega)).mono ?_⟩
    rintro e W3 ⟨v, xs, e3, hxs, ho, hb3⟩
    obtain ⟨a, c, rfl, hps⟩ := owned_ps ho rfl
    have hb13 := (NB.of hb2).trans hb3
    have hxl : xs.length ≤ 1000000 := by
      have hpm : xs.Perm (S.map Sp.b) := (List.perm_ext_iff_of_nodup hxs.1 hr.nd).2 (fun d => ⟨fun hd => by
        have := (hxs.2.2 d (hxs.2.1 d hd)).1 hd
        cases hl : lk S d with
        | none => rw [hl] at this; cases this
        | some q =>
          obtain ⟨s, hs, e, _⟩ := lk_some hl
          exact List.mem_map.2 ⟨s, hs, e⟩, fun hd => by
        obtain ⟨s, hs, e⟩ := List.mem_map.1 hd
        refine (hxs.2.2 d (by rw [← e]; exact s2 s hs)).2 ?_
        rw [← e, lk_mem hr.nd hs]
        rfl⟩)
      have := hpm.length_eq
      rw [List.length_map] at this
      omega
    refine ⟨_, e3, (rising_any a xs.length c xs W3 hps hxs.2.1 hxl).mono ?_⟩
    rintro e W4 ⟨g, c4, e4, ho4, hb4⟩
    rw [keys_rise q1 hr.nd s2 hxs] at e4 ho4
    have hb14 := hb13.trans (NB.of hb4)
    have hz3 := hb13.1
    refine ⟨_, e4, hid ⟨A', ⟨_, rfl, owns_base ho4 (Nat.le_trans h5.size hz3), fun j hj e => ?_⟩, (h1.tt h2 h3 h4).same hb14.1 (fun j hj => hb14.2.1 j (h1.as_ j hj)), h5.trans hb14.ka⟩⟩
    have := (ho4.lt j hj).1
    have := h1.as_ j e
    omega)
  clear h
  go_enter Try.func14, Try.ntmps14
  go_wp2_with (first
    | (go_at_call 36; refine HR.mono ?_; rintro e W4 ⟨v', rfl, HF⟩)
    | (go_at_call 37; refine HC.mono ?_; rintro e W3 ⟨v, rfl, HR⟩)
    | (go_at_call 38; refine HK.mono ?_; rintro e W2 ⟨rfl, HC⟩)
    | (go_at_call 39; refine HN.mono ?_; rintro e W1 ⟨rfl, mo, cp, HK⟩))
  go_ret
  exact HF.out
end

section
set_option linter.unusedVariables false
open Go.RowKit

/-- A tree of these moves; the blocks of which P holds are none of its own. -/
def TP (W : World) (t : Nat) (l : List Mv) (P : Nat → Prop) : Prop := ∃ A, TT W t l A ∧ ∀ j, P j → ¬ A j ∧ j < W.heap.size

/-- Blocks of which P holds are as they were. -/
structure KP (P : Nat → Prop) (W W' : World) : Prop where
  size : W.heap.size ≤ W'.heap.size
  keep : ∀ j, P j → W'.heap[j]? = W.heap[j]?
  sm : Sm W W'

theorem KP.refl (P : Nat → Prop) (W : World) : KP P W W := ⟨Nat.le_refl _, fun _ _ => rfl, Sm.refl _⟩
theorem KP.trans {P : Nat → Prop} {a b c : World} (h : KP P a b) (k : KP P b c) : KP P a c := ⟨Nat.le_trans h.size k.size, fun j hj => (k.keep j hj).trans (h.keep j hj), h.sm.trans k.sm⟩
theorem KP.mono {P Q : Nat → Prop} {a b : World} (h : KP P a b) (hq : ∀ j, Q j → P j) : KP Q a b := ⟨h.size, fun j hj => h.keep j (hq j hj), h.sm⟩
theorem KP.below {P : Nat → Prop} {a b : World} (h : Below a.heap.size a b) (hp : ∀ j, P j → j < a.heap.size) : KP P a b := ⟨h.size, fun j hj => h.block j (hp j hj), Sm.b h⟩
theorem KP.bel {a b : World} {n : Nat} (h : KP (fun j => j < n) a b) : Below n a b := ⟨h.sm.1, h.sm.2.1, h.sm.2.2, h.size, fun j hj => h.keep j hj⟩
theorem KP.drew {P : Nat → Prop} {a b : World} (h : KP P a b) : KP P a b.drew := ⟨h.size, h.keep, h.sm⟩

theorem TP.lt {W : World} {t : Nat} {l : List Mv} {P : Nat → Prop} (h : TP W t l P) : ∀ j, P j → j < W.heap.size := by
  obtain ⟨A, _, hA⟩ := h
  exact fun j hj => (hA j hj).2
theorem TP.log {W : World} {t : Nat} {l : List Mv} {P : Nat → Prop} (h : TP W t l P) : Lg l ∧ (∀ m ∈ l, Dw m.id ∧ Dw m.block ∧ Dw m.parent) ∧ l.length ≤ 1000 := by
  obtain ⟨A, h, _⟩ := h
  exact h.log
theorem TP.mono {W : World} {t : Nat} {l : List Mv} {P Q : Nat → Prop} (h : TP W t l P) (hq : ∀ j, Q j → P j) : TP W t l Q := by
  obtain ⟨A, h1, h2⟩ := h
  exact ⟨A, h1, fun j hj => h2 j (hq j hj)⟩

/-- Blocks that are none of the tree's may turn, and there may be new ones. -/
theorem TP.turn {W V : World} {t : Nat} {l : List Mv} {P Q : Nat → Prop} (h : TP W t l P) (hz : W.heap.size ≤ V.heap.size) (hk : ∀ j, j < W.heap.size → ¬ P j → V.heap[j]? = W.heap[j]?) (hq : ∀ j, Q j → P j ∨ (W.heap.size ≤ j ∧ j < V.heap.size)) : TP V t l Q := by
  obtain ⟨A, h1, h2⟩ := h
  refine ⟨A, h1.same hz (fun j hj => hk j (h1.lt j hj) (fun e => (h2 j e).1 hj)), fun j hj => ?_⟩
  rcases hq j hj with e | e
  · exact ⟨(h2 j e).1, Nat.lt_of_lt_of_le (h2 j e).2 hz⟩
  · exact ⟨fun e' => absurd (h1.lt j e') (by omega), e.2⟩
theorem TP.below {W V : World} {t : Nat} {l : List Mv} {P : Nat → Prop} (h : TP W t l P) (hb : Below W.heap.size W V) : TP V t l P := h.turn hb.size (fun j hj _ => hb.block j hj) (fun j hj => Or.inl hj)
theorem TP.alloc {W : World} {t : Nat} {l : List Mv} {P : Nat → Prop} (h : TP W t l P) (o : Obj) : TP (W.alloc o) t l (fun j => P j ∨ j = W.heap.size) :=
  h.turn (by simp) (fun j hj _ => Below.heap_alloc W o j hj) (fun j hj => hj.imp id (fun e => by subst e; simp))
theorem TP.drew {W : World} {t : Nat} {l : List Mv} {P : Nat → Prop} (h : TP W t l P) : TP W.drew t l P := h.turn (Nat.le_refl _) (fun j _ _ => rfl) (fun j hj => Or.inl hj)

theorem foreign {W W' : World} {A A' : Nat → Prop} (h : KA W W' A A') {j : Nat} (hj : ¬ A j ∧ j < W.heap.size) : ¬ A' j ∧ j < W'.heap.size :=
  ⟨fun e => by
    rcases h.new j e with e | e
    · exact hj.1 e
    · omega, Nat.lt_of_lt_of_le hj.2 h.size⟩

theorem TP.next {W W' : World} {t : Nat} {l' : List Mv} {A A' P : Nat → Prop} (hA : ∀ j, P j → ¬ A j ∧ j < W.heap.size) (h2 : TT W' t l' A') (h3 : KA W W' A A') : TP W' t l' P ∧ KP P W W' :=
  ⟨⟨A', h2, fun j hj => foreign h3 (hA j hj)⟩, ⟨h3.size, fun j hj => h3.keep j (hA j hj).2 (hA j hj).1, h3.sm⟩⟩

theorem new_tp (w : World) : Calls Try.prog 10 #[] w fun e w' => e = .returned (.pointer (some ⟨w.heap.size, 0, none⟩)) ∧ TP w' w.heap.size [] (fun j => j < w.heap.size) ∧ Below w.heap.size w w' :=
  (new_tt w).mono (fun e w' h => ⟨h.1, ⟨_, h.2.1, fun j hj => ⟨by omega, Nat.lt_of_lt_of_le hj h.2.2.size⟩⟩, h.2.2⟩)

theorem move_tp {t : Nat} {l : List Mv} {P : Nat → Prop} (m : Mv) {W : World} (h : TP W t l P) (hd : Dw m.id ∧ Dw m.block ∧ Dw m.parent) (hs : l.length + 1 ≤ 1000) : Calls Try.prog 12 #[.pointer (some ⟨t, 0, none⟩), dv m.id, .int .i64 m.time, dv m.block, dv m.parent, .string m.key] W fun e W' => e = .returned (.int .i64 (mvE l m)) ∧ TP W' t (mvL l m) P ∧ KP P W W' := by
  obtain ⟨A, hT, hA⟩ := h
  refine (move_any t l A m W hT hd hs).mono ?_
  rintro e W' ⟨e1, A', h2, h3⟩
  exact ⟨e1, TP.next hA h2 h3⟩
theorem there_tp {t : Nat} {l : List Mv} {P : Nat → Prop} (d : Dt) {W : World} (h : TP W t l P) (hd : Dw d) : Calls Try.prog 25 #[.pointer (some ⟨t, 0, none⟩), dv d] W fun e W' => e = .returned (.bool (lk (run l) d).isSome) ∧ TP W' t l P ∧ KP P W W' := by
  obtain ⟨A, hT, hA⟩ := h
  refine (there_tt t l A d W hT hd).mono ?_
  rintro e W' ⟨e1, A', h2, h3⟩
  exact ⟨e1, TP.next hA h2 h3⟩
theorem took_tp {t : Nat} {l : List Mv} {P : Nat → Prop} (d : Dt) {W : World} (h : TP W t l P) (hd : Dw d) : Calls Try.prog 18 #[.pointer (some ⟨t, 0, none⟩), dv d] W fun e W' => e = .returned (.bool (tookB l d)) ∧ TP W' t l P ∧ KP P W W' := by
  obtain ⟨A, hT, hA⟩ := h
  refine (took_tt t l A d W hT hd).mono ?_
  rintro e W' ⟨e1, A', h2, h3⟩
  exact ⟨e1, TP.next hA h2 h3⟩
theorem parent_tp {t : Nat} {l : List Mv} {P : Nat → Prop} (d : Dt) {W : World} (h : TP W t l P) (hd : Dw d) : Calls Try.prog 16 #[.pointer (some ⟨t, 0, none⟩), dv d] W fun e W' => e = .returned (.tuple #[dv ((lk (run l) d).getD pl0).1, .string ((lk (run l) d).getD pl0).2, .bool (lk (run l) d).isSome]) ∧ TP W' t l P ∧ KP P W W' := by
  obtain ⟨A, hT, hA⟩ := h
  refine (parent_tt t l A d W hT hd).mono ?_
  rintro e W' ⟨e1, A', h2, h3⟩
  exact ⟨e1, TP.next hA h2 h3⟩
theorem kids_tp {t : Nat} {l : List Mv} {P : Nat → Prop} (d : Dt) {W : World} (h : TP W t l P) (hd : Dw d) : Calls Try.prog 17 #[.pointer (some ⟨t, 0, none⟩), dv d] W fun e W' => ∃ a c, e = .returned (.slice a (kidB (run l) d).length c) ∧ PS W' a (kidB (run l) d).length c (kidB (run l) d) ∧ TP W' t l (fun j => P j ∨ ∃ ad, a = some ad ∧ ad.block = j) ∧ KP P W W' := by
  obtain ⟨A, hT, hA⟩ := h
  refine (kids_tt t l A d W hT hd).mono ?_
  rintro e W' ⟨A', ⟨v, e1, ho, hv⟩, h2, h3⟩
  obtain ⟨a, c, rfl, hps⟩ := owned_ps ho rfl
  refine ⟨a, c, e1, hps, ⟨A', h2, fun j hj => ?_⟩, ⟨h3.size, fun j hj => h3.keep j (hA j hj).2 (hA j hj).1, h3.sm⟩⟩
  rcases hj with hj | ⟨ad, rfl, rfl⟩
  · exact foreign h3 (hA j hj)
  · rcases ho.2 with ⟨e', _⟩ | ⟨g, cap, cur, e', _, hg, _⟩
    · simp at e'
    · simp only [Value.slice.injEq, Option.some.injEq] at e'
      rw [e'.1]
      exact ⟨hv _ (by rw [e'.1]; rfl), (Array.getElem?_eq_some_iff.1 hg).1⟩

theorem path_tp {t : Nat} {l : List Mv} {P : Nat → Prop} (d : Dt) {W : World} (h : TP W t l P) (hd : Dw d) : Calls Try.prog 20 #[.pointer (some ⟨t, 0, none⟩), dv d] W fun e W' => ∃ a c, e = .returned (.slice a (pth (run l) d).length c) ∧ PS W' a (pth (run l) d).length c (pth (run l) d) ∧ TP W' t l (fun j => P j ∨ ∃ ad, a = some ad ∧ ad.block = j) ∧ KP P W W' := by
  obtain ⟨A, hT, hA⟩ := h
  refine (path_tt t l A d W hT hd).mono ?_
  rintro e W' ⟨A', ⟨v, e1, ho, hv⟩, h2, h3⟩
  obtain ⟨a, c, rfl, hps⟩ := owned_ps ho rfl
  refine ⟨a, c, e1, hps, ⟨A', h2, fun j hj => ?_⟩, ⟨h3.size, fun j hj => h3.keep j (hA j hj).2 (hA j hj).1, h3.sm⟩⟩
  rcases hj with hj | ⟨ad, rfl, rfl⟩
  · exact foreign h3 (hA j hj)
  · rcases ho.2 with ⟨e', _⟩ | ⟨g, cap, cur, e', _, hg, _⟩
    · simp at e'
    · simp only [Value.slice.injEq, Option.some.injEq] at e'
      rw [e'.1]
      exact ⟨hv _ (by rw [e'.1]; rfl), (Array.getElem?_eq_some_iff.1 hg).1⟩

theorem blocks_tp {t : Nat} {l : List Mv} {P : Nat → Prop} {W : World} (h : TP W t l P) : Calls Try.prog 14 #[.pointer (some ⟨t, 0, none⟩)] W fun e W' => ∃ a c, e = .returned (.slice a (blks l).length c) ∧ PS W' a (blks l).length c (blks l) ∧ TP W' t l (fun j => P j ∨ ∃ ad, a = some ad ∧ ad.block = j) ∧ KP P W W' := by
  obtain ⟨A, hT, hA⟩ := h
  refine (blocks_tt t l A W hT).mono ?_
  rintro e W' ⟨A', ⟨v, e1, ho, hv⟩, h2, h3⟩
  obtain ⟨a, c, rfl, hps⟩ := owned_ps ho rfl
  refine ⟨a, c, e1, hps, ⟨A', h2, fun j hj => ?_⟩, ⟨h3.size, fun j hj => h3.keep j (hA j hj).2 (hA j hj).1, h3.sm⟩⟩
  rcases hj with hj | ⟨ad, rfl, rfl⟩
  · exact foreign h3 (hA j hj)
  · rcases ho.2 with ⟨e', _⟩ | ⟨g, cap, cur, e', _, hg, _⟩
    · simp at e'
    · simp only [Value.slice.injEq, Option.some.injEq] at e'
      rw [e'.1]
      exact ⟨hv _ (by rw [e'.1]; rfl), (Array.getElem?_eq_some_iff.1 hg).1⟩
end

section
set_option linter.unusedVariables false
open Go.RowKit

/-- The moves that a tree has, behind these. -/
def tr (L : List Mv) : List Mv := L.foldl mvL []

theorem tr_snoc (L : List Mv) (m : Mv) : tr (L ++ [m]) = mvL (tr L) m := by
  unfold tr
  rw [List.foldl_append]
  rfl

theorem mvL_len (l : List Mv) (m : Mv) : (mvL l m).length ≤ l.length + 1 := by
  unfold mvL
  split
  · rw [ins_len]; omega
  · omega

theorem fold_mvL_len : ∀ (L l : List Mv), (L.foldl mvL l).length ≤ l.length + L.length
  | [], l => by simp
  | m :: L, l => by
    have h1 := fold_mvL_len L (mvL l m)
    have h2 := mvL_len l m
    simp only [List.foldl_cons, List.length_cons]
    omega

theorem tr_len (L : List Mv) : (tr L).length ≤ L.length := by
  have := fold_mvL_len L []
  unfold tr
  simpa using this

theorem Lg.run_tk {l : List Mv} (h : Lg l) : ∃ r, Tk (run l) r := by
  have := h.tk l.length
  rwa [List.take_length] at this

theorem blks_len (l : List Mv) : (blks l).length ≤ l.length := by
  unfold blks
  refine Nat.le_trans (rise_length _) ?_
  rw [List.length_map]
  exact run_len l

theorem run_dw {l : List Mv} (h : ∀ m ∈ l, Dw m.id ∧ Dw m.block ∧ Dw m.parent) : ∀ s ∈ run l, Dw s.b ∧ Dw s.p := fun s hs => by
  obtain ⟨m, hm, rfl⟩ := run_mem hs
  exact ⟨(h m hm).2.1, (h m hm).2.2⟩

theorem blks_dw {l : List Mv} (h : ∀ m ∈ l, Dw m.id ∧ Dw m.block ∧ Dw m.parent) : ∀ b ∈ blks l, Dw b := fun b hb => by
  unfold blks at hb
  rw [mem_rise, List.mem_map] at hb
  obtain ⟨s, hs, rfl⟩ := hb
  exact (run_dw h s hs).1
end

section
set_option linter.unusedVariables false
open Go.RowKit

def Mv.cells (x : Mv) : List Value := [.int .i64 x.id.1, .int .i64 x.id.2, .int .i64 x.time, .int .i64 x.block.1, .int .i64 x.block.2, .int .i64 x.parent.1, .int .i64 x.parent.2, .string x.key]

def T64 (n : Int) : Prop := -9223372036854775808 ≤ n ∧ n ≤ 9223372036854775807
theorem t64_wf {n : Int} (h : (Lit.int .i64 n).wf = true) : T64 n := by
  simp [Lit.wf] at h
  unfold T64
  exact h

structure Mv.Fits (x : Mv) : Prop where
  id : Dw x.id
  time : T64 x.time
  block : Dw x.block
  parent : Dw x.parent
  key : x.key.data.size ≤ maxLen

/-- A slice of moves. -/
structure MvS (w : World) (a : Option Addr) (n c : Nat) (L : List Mv) : Prop where
  len : L.length = n
  cap : n ≤ c
  max : c ≤ maxLen
  nil : a = none → n = 0 ∧ c = 0
  at_ : 0 < n → ∃ g o, a = some ⟨g, o, none⟩ ∧ g < w.heap.size ∧ ∀ i (hi : i < L.length) (j : Nat) (u : Value), (L[i]).cells[j]? = some u → w.cell? ⟨g, o + i * 8 + j, none⟩ = some u

theorem MvS.same {w w' : World} {a : Option Addr} {n c : Nat} {L : List Mv} (h : MvS w a n c L) (hz : w.heap.size ≤ w'.heap.size) (hb : ∀ ad, a = some ad → w'.heap[ad.block]? = w.heap[ad.block]?) : MvS w' a n c L :=
  ⟨h.len, h.cap, h.max, h.nil, fun hp => by
    obtain ⟨g, o, e, hg, hx⟩ := h.at_ hp
    refine ⟨g, o, e, Nat.lt_of_lt_of_le hg hz, fun i hi j u hj => ?_⟩
    have := hx i hi j u hj
    simp only [World.cell?] at this ⊢
    rw [hb _ e]
    exact this⟩

theorem tadd_none (g o k : Nat) : (⟨g, o, none⟩ : Addr).add k = ⟨g, o + k, none⟩ := by unfold Addr.add; split <;> simp_all

section
open Go.ChangeShapes Go.WideShapes
variable {H : Type} {enc : TypeId × Value → H} {P : Program} {w : World} {base : Nat} {spare : Nat → Bool} {held : Bool}

theorem open_mvl {tM tDot tInt tStr : TypeId} {fs : Array Field} {g0 g1 : Field} {L : List Value} {fuel : Nat} {x : DataW H × List MemPlace}
    (hO : P.underlying tM = some (.struct fs)) (hF : fs.toList.map (fun f => (f.type, f.offset)) = [(tDot, 0), (tInt, 2), (tDot, 3), (tDot, 5), (tStr, 7)])
    (hD : P.underlying tDot = some (.struct #[g0, g1])) (hg : g0.type = tInt ∧ g0.offset = 0 ∧ g1.type = tInt ∧ g1.offset = 1)
    (hI : P.underlying tInt = some (.int .i64)) (hS : P.underlying tStr = some .string) (cO : P.cellsOf tM = 8) (cD : P.cellsOf tDot = 2) (cI : P.cellsOf tInt = 1) (cS : P.cellsOf tStr = 1)
    (hf : DataW.trod enc P w base spare held fuel tM L = some x) :
    ∃ m : Mv, L = m.cells ∧ m.Fits := by
  obtain ⟨xs, n, _, hx, hl, hlen, hq⟩ := DataW.trod_struct hO hf
  have F := fun i t o hi => fld (enc := enc) (w := w) (base := base) (spare := spare) (held := held) hF hlen hq i (t := t) (o := o) hi
  obtain ⟨y0, f0, _⟩ := F 0 _ _ rfl
  obtain ⟨y1, f1, _⟩ := F 1 _ _ rfl
  obtain ⟨y2, f2, _⟩ := F 2 _ _ rfl
  obtain ⟨y3, f3, _⟩ := F 3 _ _ rfl
  obtain ⟨y4, f4, _⟩ := F 4 _ _ rfl
  rw [cI] at f1
  rw [cD] at f0 f2 f3
  rw [cS] at f4
  obtain ⟨a0, s0, e0, u0, v0, _⟩ := dot_part hD hg hI cI f0
  obtain ⟨z1, e1, _, u1⟩ := DataW.trod_int hI f1
  obtain ⟨a2, s2, e2, u2, v2, _⟩ := dot_part hD hg hI cI f2
  obtain ⟨a3, s3, e3, u3, v3, _⟩ := dot_part hD hg hI cI f3
  obtain ⟨k, e4, _, u4⟩ := DataW.trod_string hS f4
  refine ⟨⟨(a0, s0), z1, (a2, s2), (a3, s3), k⟩, ?_, ⟨⟨u0, v0⟩, t64_wf u1, ⟨u2, v2⟩, ⟨u3, v3⟩, u4⟩⟩
  have p0 := part_two e0
  have p1 := part_one e1
  have p2 := part_two e2
  have p3 := part_two e3
  have p4 := part_one e4
  rw [cO] at hl
  apply List.ext_getElem?
  intro i
  match i with
  | 0 => exact p0.1
  | 1 => exact p0.2
  | 2 => exact p1
  | 3 => exact p2.1
  | 4 => exact p2.2
  | 5 => exact p3.1
  | 6 => exact p3.2
  | 7 => exact p4
  | i + 8 => rw [List.getElem?_eq_none (by omega), List.getElem?_eq_none (by simp [Mv.cells])]
end

theorem cellsMv : Try.prog.cellsOf 33 = 8 := by kernel_rfl
theorem tcells9 : Try.prog.cellsOf 9 = 1 := by kernel_rfl

set_option maxRecDepth 100000 in
theorem open_moves {H : Type} {enc : TypeId × Value → H} {W : World} {a : Option Addr} {len cap : Nat} {d : DataW H} {p : List MemPlace} (h : DataW.Trod enc Try.prog W 0 (fun _ => true) true 22 (.slice a len cap) d p) :
    ∃ L, MvS W a len cap L ∧ ∀ m ∈ L, m.Fits := by
  obtain ⟨fuel, hf⟩ := h
  rcases Go.Deep.open_slice Try.underlying22 hf with ⟨hcs, _⟩ | ⟨x, l, c, m, n, D, Pl, hcs, _, hl, hm, hmm, _, hx⟩
  · simp [Value.cells] at hcs
    obtain ⟨rfl, rfl, rfl⟩ := hcs
    exact ⟨[], ⟨rfl, Nat.le_refl _, Nat.zero_le _, fun _ => ⟨rfl, rfl⟩, fun h => absurd h (by omega)⟩, fun x hx => by simp at hx⟩
  · simp [Value.cells] at hcs
    obtain ⟨rfl, rfl, rfl⟩ := hcs
    have hlm : len ≤ m := by rw [hmm]; split <;> omega
    have each : ∀ i, i < m → ∃ y : Mv, (∀ j u, y.cells[j]? = some u → W.cell? ((x.add (i * 8)).add j) = some u) ∧ y.Fits := by
      intro i hi
      obtain ⟨cs, h1, h2⟩ := hx i hi
      rw [cellsMv] at h1
      obtain ⟨_, hlen, hcell⟩ := World.cells?_some h1
      obtain ⟨y, rfl, hfit⟩ := open_mvl Try.underlying33 rfl Try.underlying24 ⟨rfl, rfl, rfl, rfl⟩ Try.underlying3 Try.underlying9 cellsMv dotCells intCells tcells9 h2
      refine ⟨y, fun j u hj => ?_, hfit⟩
      have hj8 : j < 8 := by
        rcases Nat.lt_or_ge j 8 with h' | h'
        · exact h'
        · rw [List.getElem?_eq_none (by simpa [Mv.cells] using h')] at hj; cases hj
      have := hcell j hj8
      rw [this]
      exact hj
    haveI : Inhabited Mv := ⟨⟨(0, 0), 0, (0, 0), (0, 0), ByteArray.empty⟩⟩
    obtain ⟨q, hq⟩ := Go.Deep.choose_lt each
    refine ⟨(List.range len).map q, ⟨by simp, hl, hm, (fun e => by cases e), fun hp => ?_⟩, fun y hy => ?_⟩
    · obtain ⟨g, o, sp⟩ := x
      have h0 := (hq 0 (by omega)).1 0 (.int .i64 (q 0).id.1) rfl
      have hs : sp = none := by simpa [Addr.add] using World.cell?_spot h0
      subst hs
      refine ⟨g, o, rfl, by have := cell_in h0; simpa [Addr.add] using this, fun i hi j u hj => ?_⟩
      have hil : i < len := by simpa using hi
      have hi' := (hq i (by omega)).1
      rw [List.getElem_map, List.getElem_range] at hj
      have := hi' j u hj
      rw [tadd_none, tadd_none] at this
      exact this
    · obtain ⟨i, hi, rfl⟩ := List.mem_map.1 hy
      exact (hq i (by have := List.mem_range.1 hi; omega)).2
end

section
set_option linter.unusedVariables false
open Go.RowKit

def awA : Mv := ⟨(1, 1), 1, (1, 1), (0, -1), ⟨#[110]⟩⟩
def awB : Mv := ⟨(1, 2), 2, (1, 2), (1, 1), ⟨#[110]⟩⟩
def awC : Mv := ⟨(1, 3), 3, (1, 1), (1, 2), ⟨#[110]⟩⟩
def awD : Mv := ⟨(2, 1), 2, (1, 2), (0, -2), ⟨#[110]⟩⟩

theorem aw_1 : mvE [] awA = 0 ∧ mvL [] awA = [awA] := by
  have h : mvE [] awA = 0 := by decide +kernel
  refine ⟨h, ?_⟩
  unfold mvL
  rw [if_pos h]
  have hr : rkL mvl [] awA = 0 := by decide +kernel
  unfold insL
  rw [hr]
  rfl
theorem aw_2 : mvE [awA] awB = 0 ∧ mvL [awA] awB = [awA, awB] := by
  have h : mvE [awA] awB = 0 := by decide +kernel
  refine ⟨h, ?_⟩
  unfold mvL
  rw [if_pos h]
  have hr : rkL mvl [awA] awB = 1 := by decide +kernel
  unfold insL
  rw [hr]
  rfl
theorem aw_3 : mvE [awA, awB] awC = 0 ∧ mvL [awA, awB] awC = [awA, awB, awC] := by
  have h : mvE [awA, awB] awC = 0 := by decide +kernel
  refine ⟨h, ?_⟩
  unfold mvL
  rw [if_pos h]
  have hr : rkL mvl [awA, awB] awC = 2 := by decide +kernel
  unfold insL
  rw [hr]
  rfl
theorem aw_4 : mvE [awA, awB, awC] awD = 0 ∧ mvL [awA, awB, awC] awD = [awA, awB, awD, awC] := by
  have h : mvE [awA, awB, awC] awD = 0 := by decide +kernel
  refine ⟨h, ?_⟩
  unfold mvL
  rw [if_pos h]
  have hr : rkL mvl [awA, awB, awC] awD = 2 := by decide +kernel
  unfold insL
  rw [hr]
  rfl
theorem aw_5 : tookB [awA, awB, awC] (1, 3) = false := by decide +kernel
theorem aw_6 : tookB [awA, awB, awD, awC] (1, 3) = true := by decide +kernel
theorem aw_7 : pth (run [awA, awB, awD, awC]) (1, 1) = [(1, 2), (0, -2)] := by decide +kernel
theorem aw_8 : (lk (run [awA, awB, awD, awC]) (1, 1)).isSome = true := by decide +kernel
end
end Go.Proofs.Ytplcohjpchfkkaa
