/- Blocks. -/
import Derived.Shelf.SlSortCmp.WholeK
import Derived.Test.YtplcohjpchfkkaaProg
import Derived.Test.YtplcohjpchfkkaaMRow
import Derived.Test.YtplcohjpchfkkaaTrCollect
import Derived.Test.YtplcohjpchfkkaaTrPath
namespace Go.Proofs.Ytplcohjpchfkkaa
section
open Go.Shelf

def ren : Ren := ⟨fun | 6 => 78 | 15 => 89 | 14 => 88 | 28 => 106 | 29 => 107 | 20 => 98 | 21 => 99 | 22 => 100 | 23 => 101 | 24 => 102 | 25 => 103 | 26 => 104 | 27 => 105 | 46 => 110 | 47 => 111 | 48 => 112 | 49 => 113 | 50 => 114 | 57 => 116 | n => n, fun | 22 => 29 | 24 => 24 | 25 => 119 | 3 => 3 | 39 => 116 | 0 => 0 | 53 => 145 | 55 => 147 | 4 => 4 | 46 => 139 | 45 => 138 | 50 => 101 | 5 => 5 | 9 => 9 | 66 => 148 | 70 => 152 | 76 => 155 | 77 => 156 | n => n, fun n => n⟩

theorem lays : SlLaysF0.n6 Try.prog ren := {
  mixed := by kernel_rfl
  f6 := ⟨Try.f78.name, by decide, Try.func78.trans (congrArg some (by kernel_rfl))⟩
  f14 := ⟨Try.f88.name, by decide, Try.func88.trans (congrArg some (by kernel_rfl))⟩
  f15 := Try.func89.trans (congrArg some (by kernel_rfl))
  f20 := ⟨Try.f98.name, by decide, Try.func98.trans (congrArg some (by kernel_rfl))⟩
  f21 := ⟨Try.f99.name, by decide, Try.func99.trans (congrArg some (by kernel_rfl))⟩
  f22 := ⟨Try.f100.name, by decide, Try.func100.trans (congrArg some (by kernel_rfl))⟩
  f23 := ⟨Try.f101.name, by decide, Try.func101.trans (congrArg some (by kernel_rfl))⟩
  f24 := ⟨Try.f102.name, by decide, Try.func102.trans (congrArg some (by kernel_rfl))⟩
  f25 := ⟨Try.f103.name, by decide, Try.func103.trans (congrArg some (by kernel_rfl))⟩
  f26 := ⟨Try.f104.name, by decide, Try.func104.trans (congrArg some (by kernel_rfl))⟩
  f27 := ⟨Try.f105.name, by decide, Try.func105.trans (congrArg some (by kernel_rfl))⟩
  f28 := Try.func106.trans (congrArg some (by kernel_rfl))
  f29 := Try.func107.trans (congrArg some (by kernel_rfl))
  f46 := ⟨Try.f110.name, by decide, Try.func110.trans (congrArg some (by kernel_rfl))⟩
  f47 := Try.func111.trans (congrArg some (by kernel_rfl))
  f48 := Try.func112.trans (congrArg some (by kernel_rfl))
  f49 := ⟨Try.f113.name, by decide, Try.func113.trans (congrArg some (by kernel_rfl))⟩
  f50 := ⟨Try.f114.name, by decide, Try.func114.trans (congrArg some (by kernel_rfl))⟩
  f57 := ⟨Try.f116.name, by decide, Try.func116.trans (congrArg some (by kernel_rfl))⟩
  t0 := Try.underlying0
  a0 := Try.isAgg0
  z0 := Try.sizeOf0
  v0 := Try.zeroValue0
  t3 := Try.underlying3
  a3 := Try.isAgg3
  z3 := Try.sizeOf3
  v3 := Try.zeroValue3
  t4 := Try.underlying4
  a4 := Try.isAgg4
  z4 := Try.sizeOf4
  v4 := Try.zeroValue4
  t5 := Try.underlying5
  a5 := Try.isAgg5
  z5 := Try.sizeOf5
  v5 := Try.zeroValue5
  t9 := Try.underlying9
  a9 := Try.isAgg9
  z9 := Try.sizeOf9
  v9 := Try.zeroValue9
  t22 := Try.underlying29
  a22 := Try.isAgg29
  z22 := Try.sizeOf29
  v22 := Try.zeroValue29
  t25 := Try.underlying119
  a25 := Try.isAgg119
  z25 := Try.sizeOf119
  v25 := Try.zeroValue119
  t39 := Try.underlying116
  a39 := Try.isAgg116
  z39 := Try.sizeOf116
  v39 := Try.zeroValue116
  t45 := Try.underlying138
  a45 := Try.isAgg138
  z45 := Try.sizeOf138
  v45 := Try.zeroValue138
  t46 := Try.underlying139
  a46 := Try.isAgg139
  z46 := Try.sizeOf139
  v46 := Try.zeroValue139
  t50 := Try.underlying101
  a50 := Try.isAgg101
  z50 := Try.sizeOf101
  v50 := Try.zeroValue101
  t53 := Try.underlying145
  a53 := Try.isAgg145
  z53 := Try.sizeOf145
  v53 := Try.zeroValue145
  t55 := Try.underlying147
  a55 := Try.isAgg147
  z55 := Try.sizeOf147
  v55 := Try.zeroValue147
  t66 := Try.underlying148
  a66 := Try.isAgg148
  z66 := Try.sizeOf148
  v66 := Try.zeroValue148
  t70 := Try.underlying152
  a70 := Try.isAgg152
  z70 := Try.sizeOf152
  v70 := Try.zeroValue152
  t76 := Try.underlying155
  a76 := Try.isAgg155
  z76 := Try.sizeOf155
  v76 := Try.zeroValue155
  t77 := Try.underlying156
  a77 := Try.isAgg156
  z77 := Try.sizeOf156
  v77 := Try.zeroValue156
}

end

section
open Go.RowKit
open Go.Sort (grow ahead putRow putCells mapBlock onCells Holds HoldsK flatK putRowK PermIn SortedIn SWO size_flatK get_flatK heap_grow_old)

/-- A dot's two cells. -/
def encD (x : Dt) : List Value := [.int .i64 x.1, .int .i64 x.2]

theorem lt_cfd (x y : Dt) : ltOf cfd x y = dl x y := by
  unfold ltOf cfd
  by_cases h : x = y
  · subst h; simp [dl_irrefl]
  · by_cases h2 : dl x y = true
    · simp [h, h2]
    · simp [h, h2]

theorem swo_cfd : SWO (ltOf cfd) := by
  refine ⟨fun x => ?_, fun x y z h1 h2 => ?_, fun x y z h1 h2 => ?_⟩
  · rw [lt_cfd]; exact dl_irrefl x
  · rw [lt_cfd] at *; exact dl_trans h1 h2
  · rw [lt_cfd] at *
    have k1 : ¬ dl x y = true := by rw [h1]; simp
    have k2 : ¬ dl y z = true := by rw [h2]; simp
    cases hh : dl x z
    · rfl
    · rw [dl_iff] at *; omega

theorem cmp_lays (blk off size : Nat) (w : World) : CmpLays Try.prog 79 #[] encD 2 cfd blk off size w := fun _ _ _ _ x y =>
  (dorder_any x y _).mono fun _ _ ⟨he, q, os, hw⟩ => ⟨he, q, os, hw⟩

theorem flatK_list (d : Array Dt) : (flatK encD 2 d).toList = flat d.toList := by
  apply List.ext_getElem?
  intro t
  by_cases ht : t < d.size * 2
  · have h1 : (flatK encD 2 d)[t]! = (encD d[t / 2]!)[t % 2]! := get_flatK encD 2 d t ht
    have hi : t / 2 < d.toList.length := by simp; omega
    have hi' : t / 2 < d.size := by omega
    obtain ⟨f1, f2⟩ := flat_get d.toList (t / 2) hi
    have e0 : (flatK encD 2 d).toList[t]? = some ((flatK encD 2 d)[t]!) := by
      rw [Array.getElem?_toList, getElem!_pos _ t (by rw [size_flatK]; exact ht), Array.getElem?_eq_getElem (by rw [size_flatK]; exact ht)]
    rw [e0, h1, getElem!_pos d (t / 2) hi']
    rcases Nat.mod_two_eq_zero_or_one t with hm | hm
    · have : t = t / 2 * 2 := by omega
      rw [hm]
      conv => rhs; rw [this]
      rw [f1]
      simp [encD]
    · have : t = t / 2 * 2 + 1 := by omega
      rw [hm]
      conv => rhs; rw [this]
      rw [f2]
      simp [encD]
  · rw [List.getElem?_eq_none (by rw [Array.length_toList, size_flatK]; omega), List.getElem?_eq_none (by rw [flat_length, Array.length_toList]; omega)]

theorem holds_own {w : World} {base g c : Nat} {ds : List Dt} (h : Own w base g ds.length c ds) : HoldsK encD 2 w g 0 ds.toArray := by
  rcases h.2 with ⟨h0, _⟩ | ⟨g', cap', cur, hv, hg, hb, hn, hcap, hsz, ht⟩
  · cases h0
  · cases hv
    intro j hj
    rw [size_flatK] at hj
    have hj' : j < ds.length * 2 := by simpa using hj
    refine ⟨?_, by simp [World.frozen?, hb]⟩
    have h1 : (cur.toList.take (ds.length * 2))[j]? = (flat ds)[j]? := by rw [ht]
    rw [List.getElem?_take_of_lt hj'] at h1
    simp only [World.cell?, hb, Nat.zero_add]
    simp only [Option.isSome_none, Bool.false_eq_true, if_false]
    rw [← Array.getElem?_toList, h1]
    have e := flatK_list ds.toArray
    have e2 : ds.toArray.toList = ds := rfl
    rw [e2] at e
    rw [← e, Array.getElem?_toList, getElem!_pos _ j (by rw [size_flatK]; exact hj), Array.getElem?_eq_getElem (by rw [size_flatK]; exact hj)]
    rfl

theorem sorted_up {ts : List Dt} (hn : ts.Nodup) (h : SortedIn (ltOf cfd) 0 ts.toArray.size ts.toArray) : Up ts := by
  refine List.pairwise_iff_getElem.2 fun i j hi hj hij => ?_
  have := h i j (Nat.zero_le _) hij (by simpa using hj)
  rw [lt_cfd, getElem!_pos _ j (by simpa using hj), getElem!_pos _ i (by simpa using hi)] at this
  have hne : ts[j] ≠ ts[i] := fun e => by
    have := (List.getElem_inj hn).1 e
    omega
  exact dl_total hne (by simpa using this)

theorem heap_sortedK {w : World} {g n : Nat} {os : Array Obj} {cur : Array Value} {e : TypeId} {fr : Nat × Nat} (d : Array Dt) (hb : w.heap[g]? = some (.cells cur e fr)) :
    (sortWorldK encD 2 w g 0 n d os).heap[g]? = some (.cells (putCells id 0 (flatK encD 2 d) cur) e fr) := by
  have hg : g < w.heap.size := (Array.getElem?_eq_some_iff.1 hb).1
  unfold sortWorldK putRowK
  rw [heap_grow_old _ _ (by simpa using hg)]
  simp [putRow, mapBlock, Array.getElem?_modify, hb, onCells]

theorem grownBy_sortedK {w : World} {g n : Nat} {os : Array Obj} (d : Array Dt) : w.grownBy (sortWorldK encD 2 w g 0 n d os) (some g) := by
  unfold sortWorldK putRowK
  refine ⟨rfl, rfl, rfl, by simp, fun k hk hne => ?_⟩
  rw [heap_grow_old _ _ (by simpa using hk)]
  have : g ≠ k := fun e => hne (by rw [e])
  simp [putRow, mapBlock, Array.getElem?_modify, this]

theorem take_putK (cur : Array Value) (ts : List Dt) (h : ts.length * 2 ≤ cur.size) : (putCells id 0 (flatK encD 2 ts.toArray) cur).toList.take (ts.length * 2) = flat ts := by
  have e : (flatK encD 2 ts.toArray).toList = flat ts := flatK_list ts.toArray
  apply List.ext_getElem?
  intro j
  by_cases hj : j < ts.length * 2
  · rw [List.getElem?_take_of_lt hj, Array.getElem?_toList, ← e, Array.getElem?_toList]
    simp [putCells, hj, show j < cur.size by omega]
  · rw [List.getElem?_take_eq_none (by omega), List.getElem?_eq_none (by rw [flat_length]; omega)]

set_option maxHeartbeats 1000000 in
theorem sortSays : SortSays := by
  intro base g c ds w hown hnd hsz
  have eg : ∀ args w, (callFunc 79 args).run Try.prog w = .ok (.enter 79 args) w := enters_of Try.func79 (by kernel_rfl) rfl
  have hgl : g < w.heap.size := (hown.lt g rfl).2
  have hcon := AnyQ.slices_SortFunc lays 2 Try.isAgg24 Try.sizeOf24 encD (fun _ => rfl) (fun x v hv => by simp [encD] at hv; rcases hv with rfl | rfl <;> rfl) cfd swo_cfd 79 #[] g 0 c ds.toArray w eg (cmp_lays g 0 ds.toArray.size w) (holds_own hown) hgl (by simp; omega)
  refine Calls.mono hcon ?_
  rintro e w' ⟨rfl, d', n, os, hp, hs, rfl⟩
  have hsize : d'.size = ds.length := by simpa using hp.1
  have hperm : d'.toList.Perm ds := by
    have := hp.2.2
    have e1 : ds.take d'.size = ds := by rw [hsize, List.take_length]
    simpa [← hsize, e1] using this
  have hup : Up d'.toList := sorted_up (hperm.nodup_iff.2 hnd) (by simpa [hsize] using hs)
  have hrise : d'.toList = rise ds := eq_rise hup (fun d => hperm.mem_iff)
  refine ⟨rfl, ?_, grownBy_sortedK _⟩
  rcases hown.2 with ⟨h0, _⟩ | ⟨g', cap', cur, hv, hg, hb, hn, hcap, hcs, ht⟩
  · cases h0
  · cases hv
    refine ⟨by rw [flat_length, nodup_rise_length hnd], .inr ⟨g, c, _, rfl, hg, heap_sortedK _ hb, hn, hcap, by simp [putCells, hcs], ?_⟩⟩
    rw [← hrise, ← hsize]
    have := take_putK cur d'.toList (by rw [Array.length_toList, hsize]; omega)
    simpa using this

end

section
open Go.RowKit Go.Sort Go.Maps

theorem Own.base {w : World} {b b' g n c : Nat} {L : List Dt} (h : Own w b g n c L) (hb : b' ≤ b) : Own w b' g n c L := by
  obtain ⟨h1, h2⟩ := h
  refine ⟨h1, ?_⟩
  rcases h2 with h2 | ⟨g', cap', cur, hv, hg, r⟩
  · exact .inl h2
  · exact .inr ⟨g', cap', cur, hv, Nat.le_trans hb hg, r⟩

/-- A call answers a new slice that holds L. -/
def GivesN (w : World) (L : List Dt) (e : Ending) (w' : World) : Prop :=
  ∃ g c, e = .returned (.slice (some ⟨g, 0, none⟩) L.length c) ∧ Own w' w.heap.size g L.length c L ∧ Below w.heap.size w w'

set_option maxHeartbeats 1000000 in
theorem rising_any (a : Option Addr) (n c : Nat) (L : List Dt) (w : World) (hs : PS w a n c L) (hd : Dws L) (hn : n ≤ 1000000) :
    Calls Try.prog 36 #[.slice a n c] w (GivesN w (rise L)) := by
  have hp := places_any a n c L w hs hd hn
  go_enter Try.func36, Try.ntmps36
  go_wp2_with (first
    | (go_at_call 57; refine (row_any sortSays _ n (pl L) L w1 hdm (fun d _ => pl_some L d) hd hn).mono ?_; rintro e w2 ⟨g, c2, rfl, ho, b2⟩)
    | (go_at_call 58; refine hp.mono ?_; rintro e w1 ⟨rfl, hdm, b1⟩))
  go_ret
  exact ⟨g, c2, rfl, ho.base b1.size, below2 b1 b2⟩

end

section
set_option linter.unusedVariables false
set_option linter.unusedSimpArgs false
open Go.RowKit

/-- All blocks, by their identities. -/
def blks (l : List Mv) : List Dt := rise ((run l).map Sp.b)

theorem keys_rise {S S' : List Sp} (hp : S.Perm S') (hn : (S.map Sp.b).Nodup) (hd : ∀ x ∈ S, Dw x.b) {xs : List Dt} (h : KeysOfS S xs) : rise xs = rise (S'.map Sp.b) := by
  refine up_ext (up_rise _) (up_rise _) (fun d => ?_)
  rw [mem_rise, mem_rise]
  have e : ∀ d, d ∈ S'.map Sp.b ↔ (lk S d).isSome = true := fun d => by
    rw [lk_perm hn hp d]
    cases hl : lk S' d with
    | none =>
      simp only [Option.isSome_none, Bool.false_eq_true, iff_false]
      intro hm
      obtain ⟨s, hs, e⟩ := List.mem_map.1 hm
      exact lk_none.1 hl s hs e
    | some q =>
      obtain ⟨s, hs, e, _⟩ := lk_some hl
      simp only [Option.isSome_some, iff_true]
      exact List.mem_map.2 ⟨s, hs, e⟩
  rw [e]
  constructor
  · intro hm
    exact (h.2.2 d (h.2.1 d hm)).1 hm
  · intro hm
    have hm' := hm
    rw [← e] at hm'
    obtain ⟨s, hs, e2⟩ := List.mem_map.1 ((hp.map Sp.b).mem_iff.2 hm')
    refine (h.2.2 d ?_).2 hm
    rw [← e2]
    exact hd s hs

set_option maxRecDepth 100000 in
set_option maxHeartbeats 4000000 in
theorem blocks_tt (t : Nat) (l : List Mv) (A : Nat → Prop) (w : World) (h : TT w t l A) :
    Calls Try.prog 14 #[.pointer (some ⟨t, 0, none⟩)] w fun e w' => ∃ A', RowOf w w' A' (blks l) e ∧ TT w' t l A' ∧ KA w w' A A' := by
  have HN := (now_tt h).mono (R' := fun e W1 => e = .returned (.pointer (some ⟨t, 3, none⟩)) ∧ ∃ mo, W1.cell? ⟨t, 3, none⟩ = some (.map mo) ∧ Calls Try.prog 38 #[.map mo] W1 fun e W2 => e = .returned (.func (.func 60) #[] #[.pointer (some ⟨W1.heap.size, 0, none⟩)]) ∧ Calls Try.prog 37 #[.func (.func 60) #[] #[.pointer (some ⟨W1.heap.size, 0, none⟩)]] W2 fun e W3 => ∃ v, e = .returned v ∧ Calls Try.prog 36 #[v] W3 fun e W4 => ∃ v', e = .returned v' ∧ Hid (∃ A', RowOf w W4 A' (blks l) (.returned v') ∧ TT W4 t l A' ∧ KA w W4 A A')) (fun e W1 hh => by
    obtain ⟨e1, gs, S, lg, fd, pl, kd, fl, B, A', h1, h2, h3, h4, h5⟩ := hh
    obtain ⟨q1, q2, q3, q4⟩ := h1.lk_run
    obtain ⟨r, hr⟩ := h1.tk
    obtain ⟨s1, s2, s3⟩ := h1.spots
    have htb := h1.tb
    unfold TB at htb
    obtain ⟨mo, rfl⟩ : ∃ mo, pl = .map mo := by
      rcases h1.sb.v with ⟨e, _⟩ | ⟨m, e, _⟩
      · exact ⟨_, e⟩
      · exact ⟨_, e⟩
    refine ⟨e1, mo, by simp [World.cell?, htb], (keys_made mo W1).mono ?_⟩
    rintro e W2 ⟨e2, hW2⟩
    have hb2 : Below W1.heap.size W1 W2 := by rw [hW2]; exact (Below.refl _ W1).alloc (Nat.le_refl _) _
    have hm2 : W2.heap[W1.heap.size]? = some (.cells #[.map mo] 63 (0, 0)) := by rw [hW2]; exact World.alloc_heap_new W1 _
    refine ⟨e2, (collect_any W1.heap.size (.map mo) S W2 (by simp [World.cell?, hm2]) (h1.sb.v.below hb2) (by omega)).mono ?_⟩
    rintro e W3 ⟨v, xs, e3, hxs, ho, hb3⟩
    obtain ⟨a, c, rfl, hps⟩ := owned_ps ho rfl
    have hb13 := (NB.of hb2).trans hb3
    have hxl : xs.length ≤ 1000000 := by
      have hpm : xs.Perm (S.map Sp.b) := (List.perm_ext_iff_of_nodup hxs.1 hr.nd).2 (fun d => ⟨fun hd => by
        have := (hxs.2.2 d (hxs.2.1 d hd)).1 hd
        cases hl : lk S d with
        | none => rw [hl] at this; cases this
        | some q =>
          obtain ⟨s, hs, e, _⟩ := lk_some hl
          exact List.mem_map.2 ⟨s, hs, e⟩, fun hd => by
        obtain ⟨s, hs, e⟩ := List.mem_map.1 hd
        refine (hxs.2.2 d (by rw [← e]; exact s2 s hs)).2 ?_
        rw [← e, lk_mem hr.nd hs]
        rfl⟩)
      have := hpm.length_eq
      rw [List.length_map] at this
      omega
    refine ⟨_, e3, (rising_any a xs.length c xs W3 hps hxs.2.1 hxl).mono ?_⟩
    rintro e W4 ⟨g, c4, e4, ho4, hb4⟩
    rw [keys_rise q1 hr.nd s2 hxs] at e4 ho4
    have hb14 := hb13.trans (NB.of hb4)
    have hz3 := hb13.1
    refine ⟨_, e4, hid ⟨A', ⟨_, rfl, owns_base ho4 (Nat.le_trans h5.size hz3), fun j hj e => ?_⟩, (h1.tt h2 h3 h4).same hb14.1 (fun j hj => hb14.2.1 j (h1.as_ j hj)), h5.trans hb14.ka⟩⟩
    have := (ho4.lt j hj).1
    have := h1.as_ j e
    omega)
  clear h
  go_enter Try.func14, Try.ntmps14
  go_wp2_with (first
    | (go_at_call 36; refine HR.mono ?_; rintro e W4 ⟨v', rfl, HF⟩)
    | (go_at_call 37; refine HC.mono ?_; rintro e W3 ⟨v, rfl, HR⟩)
    | (go_at_call 38; refine HK.mono ?_; rintro e W2 ⟨rfl, HC⟩)
    | (go_at_call 39; refine HN.mono ?_; rintro e W1 ⟨rfl, mo, cp, HK⟩))
  go_ret
  exact HF.out
end
end Go.Proofs.Ytplcohjpchfkkaa
