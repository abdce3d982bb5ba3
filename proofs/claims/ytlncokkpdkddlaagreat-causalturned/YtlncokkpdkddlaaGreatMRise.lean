/- Rising: what it answers, in new memory. -/
import Derived.Shelf.SlSortCmp.WholeK
import Derived.Test.YtlncokkpdkddlaaGreatProg
import Derived.Test.YtlncokkpdkddlaaGreatMRow
namespace Go.Proofs.YtlncokkpdkddlaaGreat
section
open Go.Shelf

def ren : Ren := ⟨fun | 6 => 69 | 15 => 64 | 14 => 92 | 28 => 88 | 29 => 89 | 20 => 99 | 21 => 100 | 22 => 101 | 23 => 102 | 24 => 103 | 25 => 104 | 26 => 105 | 27 => 106 | 46 => 108 | 47 => 95 | 48 => 96 | 49 => 109 | 50 => 110 | 57 => 111 | n => n, fun | 22 => 33 | 24 => 32 | 25 => 101 | 3 => 3 | 39 => 95 | 0 => 0 | 53 => 117 | 55 => 119 | 4 => 4 | 46 => 111 | 45 => 110 | 50 => 71 | 5 => 5 | 9 => 9 | 66 => 122 | 70 => 126 | 76 => 133 | 77 => 134 | n => n, fun n => n⟩

theorem lays : SlLaysF0.n6 Tryz.prog ren := {
  mixed := by kernel_rfl
  f6 := ⟨Tryz.f69.name, by decide, Tryz.func69.trans (congrArg some (by kernel_rfl))⟩
  f14 := ⟨Tryz.f92.name, by decide, Tryz.func92.trans (congrArg some (by kernel_rfl))⟩
  f15 := Tryz.func64.trans (congrArg some (by kernel_rfl))
  f20 := ⟨Tryz.f99.name, by decide, Tryz.func99.trans (congrArg some (by kernel_rfl))⟩
  f21 := ⟨Tryz.f100.name, by decide, Tryz.func100.trans (congrArg some (by kernel_rfl))⟩
  f22 := ⟨Tryz.f101.name, by decide, Tryz.func101.trans (congrArg some (by kernel_rfl))⟩
  f23 := ⟨Tryz.f102.name, by decide, Tryz.func102.trans (congrArg some (by kernel_rfl))⟩
  f24 := ⟨Tryz.f103.name, by decide, Tryz.func103.trans (congrArg some (by kernel_rfl))⟩
  f25 := ⟨Tryz.f104.name, by decide, Tryz.func104.trans (congrArg some (by kernel_rfl))⟩
  f26 := ⟨Tryz.f105.name, by decide, Tryz.func105.trans (congrArg some (by kernel_rfl))⟩
  f27 := ⟨Tryz.f106.name, by decide, Tryz.func106.trans (congrArg some (by kernel_rfl))⟩
  f28 := Tryz.func88.trans (congrArg some (by kernel_rfl))
  f29 := Tryz.func89.trans (congrArg some (by kernel_rfl))
  f46 := ⟨Tryz.f108.name, by decide, Tryz.func108.trans (congrArg some (by kernel_rfl))⟩
  f47 := Tryz.func95.trans (congrArg some (by kernel_rfl))
  f48 := Tryz.func96.trans (congrArg some (by kernel_rfl))
  f49 := ⟨Tryz.f109.name, by decide, Tryz.func109.trans (congrArg some (by kernel_rfl))⟩
  f50 := ⟨Tryz.f110.name, by decide, Tryz.func110.trans (congrArg some (by kernel_rfl))⟩
  f57 := ⟨Tryz.f111.name, by decide, Tryz.func111.trans (congrArg some (by kernel_rfl))⟩
  t0 := Tryz.underlying0
  a0 := Tryz.isAgg0
  z0 := Tryz.sizeOf0
  v0 := Tryz.zeroValue0
  t3 := Tryz.underlying3
  a3 := Tryz.isAgg3
  z3 := Tryz.sizeOf3
  v3 := Tryz.zeroValue3
  t4 := Tryz.underlying4
  a4 := Tryz.isAgg4
  z4 := Tryz.sizeOf4
  v4 := Tryz.zeroValue4
  t5 := Tryz.underlying5
  a5 := Tryz.isAgg5
  z5 := Tryz.sizeOf5
  v5 := Tryz.zeroValue5
  t9 := Tryz.underlying9
  a9 := Tryz.isAgg9
  z9 := Tryz.sizeOf9
  v9 := Tryz.zeroValue9
  t22 := Tryz.underlying33
  a22 := Tryz.isAgg33
  z22 := Tryz.sizeOf33
  v22 := Tryz.zeroValue33
  t25 := Tryz.underlying101
  a25 := Tryz.isAgg101
  z25 := Tryz.sizeOf101
  v25 := Tryz.zeroValue101
  t39 := Tryz.underlying95
  a39 := Tryz.isAgg95
  z39 := Tryz.sizeOf95
  v39 := Tryz.zeroValue95
  t45 := Tryz.underlying110
  a45 := Tryz.isAgg110
  z45 := Tryz.sizeOf110
  v45 := Tryz.zeroValue110
  t46 := Tryz.underlying111
  a46 := Tryz.isAgg111
  z46 := Tryz.sizeOf111
  v46 := Tryz.zeroValue111
  t50 := Tryz.underlying71
  a50 := Tryz.isAgg71
  z50 := Tryz.sizeOf71
  v50 := Tryz.zeroValue71
  t53 := Tryz.underlying117
  a53 := Tryz.isAgg117
  z53 := Tryz.sizeOf117
  v53 := Tryz.zeroValue117
  t55 := Tryz.underlying119
  a55 := Tryz.isAgg119
  z55 := Tryz.sizeOf119
  v55 := Tryz.zeroValue119
  t66 := Tryz.underlying122
  a66 := Tryz.isAgg122
  z66 := Tryz.sizeOf122
  v66 := Tryz.zeroValue122
  t70 := Tryz.underlying126
  a70 := Tryz.isAgg126
  z70 := Tryz.sizeOf126
  v70 := Tryz.zeroValue126
  t76 := Tryz.underlying133
  a76 := Tryz.isAgg133
  z76 := Tryz.sizeOf133
  v76 := Tryz.zeroValue133
  t77 := Tryz.underlying134
  a77 := Tryz.isAgg134
  z77 := Tryz.sizeOf134
  v77 := Tryz.zeroValue134
}

def renO : Ren := ⟨fun | 6 => 43 | 15 => 64 | 14 => 63 | 28 => 88 | 29 => 89 | 20 => 80 | 21 => 81 | 22 => 82 | 23 => 83 | 24 => 84 | 25 => 85 | 26 => 86 | 27 => 87 | 46 => 94 | 47 => 95 | 48 => 96 | 49 => 97 | 50 => 98 | 57 => 107 | n => n, fun | 22 => 22 | 24 => 36 | 25 => 74 | 3 => 3 | 39 => 95 | 0 => 0 | 53 => 117 | 55 => 119 | 4 => 4 | 46 => 111 | 45 => 110 | 50 => 71 | 5 => 5 | 9 => 9 | 66 => 122 | 70 => 126 | 76 => 133 | 77 => 134 | n => n, fun n => n⟩

theorem laysO : SlLaysF0.n6 Tryz.prog renO := {
  mixed := by kernel_rfl
  f6 := ⟨Tryz.f43.name, by decide, Tryz.func43.trans (congrArg some (by kernel_rfl))⟩
  f14 := ⟨Tryz.f63.name, by decide, Tryz.func63.trans (congrArg some (by kernel_rfl))⟩
  f15 := Tryz.func64.trans (congrArg some (by kernel_rfl))
  f20 := ⟨Tryz.f80.name, by decide, Tryz.func80.trans (congrArg some (by kernel_rfl))⟩
  f21 := ⟨Tryz.f81.name, by decide, Tryz.func81.trans (congrArg some (by kernel_rfl))⟩
  f22 := ⟨Tryz.f82.name, by decide, Tryz.func82.trans (congrArg some (by kernel_rfl))⟩
  f23 := ⟨Tryz.f83.name, by decide, Tryz.func83.trans (congrArg some (by kernel_rfl))⟩
  f24 := ⟨Tryz.f84.name, by decide, Tryz.func84.trans (congrArg some (by kernel_rfl))⟩
  f25 := ⟨Tryz.f85.name, by decide, Tryz.func85.trans (congrArg some (by kernel_rfl))⟩
  f26 := ⟨Tryz.f86.name, by decide, Tryz.func86.trans (congrArg some (by kernel_rfl))⟩
  f27 := ⟨Tryz.f87.name, by decide, Tryz.func87.trans (congrArg some (by kernel_rfl))⟩
  f28 := Tryz.func88.trans (congrArg some (by kernel_rfl))
  f29 := Tryz.func89.trans (congrArg some (by kernel_rfl))
  f46 := ⟨Tryz.f94.name, by decide, Tryz.func94.trans (congrArg some (by kernel_rfl))⟩
  f47 := Tryz.func95.trans (congrArg some (by kernel_rfl))
  f48 := Tryz.func96.trans (congrArg some (by kernel_rfl))
  f49 := ⟨Tryz.f97.name, by decide, Tryz.func97.trans (congrArg some (by kernel_rfl))⟩
  f50 := ⟨Tryz.f98.name, by decide, Tryz.func98.trans (congrArg some (by kernel_rfl))⟩
  f57 := ⟨Tryz.f107.name, by decide, Tryz.func107.trans (congrArg some (by kernel_rfl))⟩
  t0 := Tryz.underlying0
  a0 := Tryz.isAgg0
  z0 := Tryz.sizeOf0
  v0 := Tryz.zeroValue0
  t3 := Tryz.underlying3
  a3 := Tryz.isAgg3
  z3 := Tryz.sizeOf3
  v3 := Tryz.zeroValue3
  t4 := Tryz.underlying4
  a4 := Tryz.isAgg4
  z4 := Tryz.sizeOf4
  v4 := Tryz.zeroValue4
  t5 := Tryz.underlying5
  a5 := Tryz.isAgg5
  z5 := Tryz.sizeOf5
  v5 := Tryz.zeroValue5
  t9 := Tryz.underlying9
  a9 := Tryz.isAgg9
  z9 := Tryz.sizeOf9
  v9 := Tryz.zeroValue9
  t22 := Tryz.underlying22
  a22 := Tryz.isAgg22
  z22 := Tryz.sizeOf22
  v22 := Tryz.zeroValue22
  t25 := Tryz.underlying74
  a25 := Tryz.isAgg74
  z25 := Tryz.sizeOf74
  v25 := Tryz.zeroValue74
  t39 := Tryz.underlying95
  a39 := Tryz.isAgg95
  z39 := Tryz.sizeOf95
  v39 := Tryz.zeroValue95
  t45 := Tryz.underlying110
  a45 := Tryz.isAgg110
  z45 := Tryz.sizeOf110
  v45 := Tryz.zeroValue110
  t46 := Tryz.underlying111
  a46 := Tryz.isAgg111
  z46 := Tryz.sizeOf111
  v46 := Tryz.zeroValue111
  t50 := Tryz.underlying71
  a50 := Tryz.isAgg71
  z50 := Tryz.sizeOf71
  v50 := Tryz.zeroValue71
  t53 := Tryz.underlying117
  a53 := Tryz.isAgg117
  z53 := Tryz.sizeOf117
  v53 := Tryz.zeroValue117
  t55 := Tryz.underlying119
  a55 := Tryz.isAgg119
  z55 := Tryz.sizeOf119
  v55 := Tryz.zeroValue119
  t66 := Tryz.underlying122
  a66 := Tryz.isAgg122
  z66 := Tryz.sizeOf122
  v66 := Tryz.zeroValue122
  t70 := Tryz.underlying126
  a70 := Tryz.isAgg126
  z70 := Tryz.sizeOf126
  v70 := Tryz.zeroValue126
  t76 := Tryz.underlying133
  a76 := Tryz.isAgg133
  z76 := Tryz.sizeOf133
  v76 := Tryz.zeroValue133
  t77 := Tryz.underlying134
  a77 := Tryz.isAgg134
  z77 := Tryz.sizeOf134
  v77 := Tryz.zeroValue134
}

end

section
open Go.RowKit
open Go.Sort (grow ahead putRow putCells mapBlock onCells Holds HoldsK flatK putRowK PermIn SortedIn SWO size_flatK get_flatK heap_grow_old)

/-- A dot's two cells. -/
def encD (x : Dt) : List Value := [.int .i64 x.1, .int .i64 x.2]

theorem lt_cfd (x y : Dt) : ltOf cfd x y = dl x y := by
  unfold ltOf cfd
  by_cases h : x = y
  · subst h; simp [dl_irrefl]
  · by_cases h2 : dl x y = true
    · simp [h, h2]
    · simp [h, h2]

theorem swo_cfd : SWO (ltOf cfd) := by
  refine ⟨fun x => ?_, fun x y z h1 h2 => ?_, fun x y z h1 h2 => ?_⟩
  · rw [lt_cfd]; exact dl_irrefl x
  · rw [lt_cfd] at *; exact dl_trans h1 h2
  · rw [lt_cfd] at *
    have k1 : ¬ dl x y = true := by rw [h1]; simp
    have k2 : ¬ dl y z = true := by rw [h2]; simp
    cases hh : dl x z
    · rfl
    · rw [dl_iff] at *; omega

theorem cmp_lays (blk off size : Nat) (w : World) : CmpLays Tryz.prog 70 #[] encD 2 cfd blk off size w := fun _ _ _ _ x y =>
  (dorder_any x y _).mono fun _ _ ⟨he, q, os, hw⟩ => ⟨he, q, os, hw⟩

theorem flatK_list (d : Array Dt) : (flatK encD 2 d).toList = flat d.toList := by
  apply List.ext_getElem?
  intro t
  by_cases ht : t < d.size * 2
  · have h1 : (flatK encD 2 d)[t]! = (encD d[t / 2]!)[t % 2]! := get_flatK encD 2 d t ht
    have hi : t / 2 < d.toList.length := by simp; omega
    have hi' : t / 2 < d.size := by omega
    obtain ⟨f1, f2⟩ := flat_get d.toList (t / 2) hi
    have e0 : (flatK encD 2 d).toList[t]? = some ((flatK encD 2 d)[t]!) := by
      rw [Array.getElem?_toList, getElem!_pos _ t (by rw [size_flatK]; exact ht), Array.getElem?_eq_getElem (by rw [size_flatK]; exact ht)]
    rw [e0, h1, getElem!_pos d (t / 2) hi']
    rcases Nat.mod_two_eq_zero_or_one t with hm | hm
    · have : t = t / 2 * 2 := by omega
      rw [hm]
      conv => rhs; rw [this]
      rw [f1]
      simp [encD]
    · have : t = t / 2 * 2 + 1 := by omega
      rw [hm]
      conv => rhs; rw [this]
      rw [f2]
      simp [encD]
  · rw [List.getElem?_eq_none (by rw [Array.length_toList, size_flatK]; omega), List.getElem?_eq_none (by rw [flat_length, Array.length_toList]; omega)]

theorem holds_own {w : World} {base g c : Nat} {ds : List Dt} (h : Own w base g ds.length c ds) : HoldsK encD 2 w g 0 ds.toArray := by
  rcases h.2 with ⟨h0, _⟩ | ⟨g', cap', cur, hv, hg, hb, hn, hcap, hsz, ht⟩
  · cases h0
  · cases hv
    intro j hj
    rw [size_flatK] at hj
    have hj' : j < ds.length * 2 := by simpa using hj
    refine ⟨?_, by simp [World.frozen?, hb]⟩
    have h1 : (cur.toList.take (ds.length * 2))[j]? = (flat ds)[j]? := by rw [ht]
    rw [List.getElem?_take_of_lt hj'] at h1
    simp only [World.cell?, hb, Nat.zero_add]
    simp only [Option.isSome_none, Bool.false_eq_true, if_false]
    rw [← Array.getElem?_toList, h1]
    have e := flatK_list ds.toArray
    have e2 : ds.toArray.toList = ds := rfl
    rw [e2] at e
    rw [← e, Array.getElem?_toList, getElem!_pos _ j (by rw [size_flatK]; exact hj), Array.getElem?_eq_getElem (by rw [size_flatK]; exact hj)]
    rfl

theorem sorted_up {ts : List Dt} (hn : ts.Nodup) (h : SortedIn (ltOf cfd) 0 ts.toArray.size ts.toArray) : Up ts := by
  refine List.pairwise_iff_getElem.2 fun i j hi hj hij => ?_
  have := h i j (Nat.zero_le _) hij (by simpa using hj)
  rw [lt_cfd, getElem!_pos _ j (by simpa using hj), getElem!_pos _ i (by simpa using hi)] at this
  have hne : ts[j] ≠ ts[i] := fun e => by
    have := (List.getElem_inj hn).1 e
    omega
  exact dl_total hne (by simpa using this)

theorem heap_sortedK {w : World} {g n : Nat} {os : Array Obj} {cur : Array Value} {e : TypeId} {fr : Nat × Nat} (d : Array Dt) (hb : w.heap[g]? = some (.cells cur e fr)) :
    (sortWorldK encD 2 w g 0 n d os).heap[g]? = some (.cells (putCells id 0 (flatK encD 2 d) cur) e fr) := by
  have hg : g < w.heap.size := (Array.getElem?_eq_some_iff.1 hb).1
  unfold sortWorldK putRowK
  rw [heap_grow_old _ _ (by simpa using hg)]
  simp [putRow, mapBlock, Array.getElem?_modify, hb, onCells]

theorem grownBy_sortedK {w : World} {g n : Nat} {os : Array Obj} (d : Array Dt) : w.grownBy (sortWorldK encD 2 w g 0 n d os) (some g) := by
  unfold sortWorldK putRowK
  refine ⟨rfl, rfl, rfl, by simp, fun k hk hne => ?_⟩
  rw [heap_grow_old _ _ (by simpa using hk)]
  have : g ≠ k := fun e => hne (by rw [e])
  simp [putRow, mapBlock, Array.getElem?_modify, this]

theorem take_putK (cur : Array Value) (ts : List Dt) (h : ts.length * 2 ≤ cur.size) : (putCells id 0 (flatK encD 2 ts.toArray) cur).toList.take (ts.length * 2) = flat ts := by
  have e : (flatK encD 2 ts.toArray).toList = flat ts := flatK_list ts.toArray
  apply List.ext_getElem?
  intro j
  by_cases hj : j < ts.length * 2
  · rw [List.getElem?_take_of_lt hj, Array.getElem?_toList, ← e, Array.getElem?_toList]
    simp [putCells, hj, show j < cur.size by omega]
  · rw [List.getElem?_take_eq_none (by omega), List.getElem?_eq_none (by rw [flat_length]; omega)]

set_option maxHeartbeats 1000000 in
theorem sortSays : SortSays := by
  intro base g c ds w hown hnd hsz
  have eg : ∀ args w, (callFunc 70 args).run Tryz.prog w = .ok (.enter 70 args) w := enters_of Tryz.func70 (by kernel_rfl) rfl
  have hgl : g < w.heap.size := (hown.lt g rfl).2
  have hcon := AnyQ.slices_SortFunc lays 2 Tryz.isAgg32 Tryz.sizeOf32 encD (fun _ => rfl) (fun x v hv => by simp [encD] at hv; rcases hv with rfl | rfl <;> rfl) cfd swo_cfd 70 #[] g 0 c ds.toArray w eg (cmp_lays g 0 ds.toArray.size w) (holds_own hown) hgl (by simp; omega)
  refine Calls.mono hcon ?_
  rintro e w' ⟨rfl, d', n, os, hp, hs, rfl⟩
  have hsize : d'.size = ds.length := by simpa using hp.1
  have hperm : d'.toList.Perm ds := by
    have := hp.2.2
    have e1 : ds.take d'.size = ds := by rw [hsize, List.take_length]
    simpa [← hsize, e1] using this
  have hup : Up d'.toList := sorted_up (hperm.nodup_iff.2 hnd) (by simpa [hsize] using hs)
  have hrise : d'.toList = rise ds := eq_rise hup (fun d => hperm.mem_iff)
  refine ⟨rfl, ?_, grownBy_sortedK _⟩
  rcases hown.2 with ⟨h0, _⟩ | ⟨g', cap', cur, hv, hg, hb, hn, hcap, hcs, ht⟩
  · cases h0
  · cases hv
    refine ⟨by rw [flat_length, nodup_rise_length hnd], .inr ⟨g, c, _, rfl, hg, heap_sortedK _ hb, hn, hcap, by simp [putCells, hcs], ?_⟩⟩
    rw [← hrise, ← hsize]
    have := take_putK cur d'.toList (by rw [Array.length_toList, hsize]; omega)
    simpa using this

end

section
open Go.RowKit Go.Sort Go.Maps

theorem Own.base {w : World} {b b' g n c : Nat} {L : List Dt} (h : Own w b g n c L) (hb : b' ≤ b) : Own w b' g n c L := by
  obtain ⟨h1, h2⟩ := h
  refine ⟨h1, ?_⟩
  rcases h2 with h2 | ⟨g', cap', cur, hv, hg, r⟩
  · exact .inl h2
  · exact .inr ⟨g', cap', cur, hv, Nat.le_trans hb hg, r⟩

/-- A call answers a new slice that holds L. -/
def GivesN (w : World) (L : List Dt) (e : Ending) (w' : World) : Prop :=
  ∃ g c, e = .returned (.slice (some ⟨g, 0, none⟩) L.length c) ∧ Own w' w.heap.size g L.length c L ∧ Below w.heap.size w w'

set_option maxHeartbeats 1000000 in
theorem rising_any (a : Option Addr) (n c : Nat) (L : List Dt) (w : World) (hs : PS w a n c L) (hd : Dws L) (hn : n ≤ 1000000) :
    Calls Tryz.prog 35 #[.slice a n c] w (GivesN w (rise L)) := by
  have hp := places_any a n c L w hs hd hn
  go_enter Tryz.func35, Tryz.ntmps35
  go_wp2_with (first
    | (go_at_call 57; refine (row_any sortSays _ n (pl L) L w1 hdm (fun d _ => pl_some L d) hd hn).mono ?_; rintro e w2 ⟨g, c2, rfl, ho, b2⟩)
    | (go_at_call 58; refine hp.mono ?_; rintro e w1 ⟨rfl, hdm, b1⟩))
  go_ret
  exact ⟨g, c2, rfl, ho.base b1.size, below2 b1 b2⟩

end
end Go.Proofs.YtlncokkpdkddlaaGreat
