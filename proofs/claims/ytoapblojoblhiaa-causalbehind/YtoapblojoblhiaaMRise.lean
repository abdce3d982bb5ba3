/- Rising: what it answers, in new memory. -/
import Derived.Shelf.SlSortCmp.WholeK
import Derived.Test.YtoapblojoblhiaaProg
import Derived.Test.YtoapblojoblhiaaMRow
namespace Go.Proofs.Ytoapblojoblhiaa
section
open Go.Shelf

def ren : Ren := ⟨fun | 6 => 64 | 15 => 61 | 14 => 78 | 28 => 75 | 29 => 76 | 20 => 84 | 21 => 85 | 22 => 86 | 23 => 87 | 24 => 88 | 25 => 89 | 26 => 90 | 27 => 91 | 46 => 93 | 47 => 80 | 48 => 81 | 49 => 94 | 50 => 95 | 57 => 96 | n => n, fun | 22 => 22 | 24 => 24 | 25 => 96 | 3 => 3 | 39 => 91 | 0 => 0 | 53 => 105 | 55 => 107 | 4 => 4 | 46 => 99 | 45 => 98 | 50 => 67 | 5 => 5 | 9 => 9 | 66 => 110 | 70 => 114 | 76 => 121 | 77 => 122 | n => n, fun n => n⟩

theorem lays : SlLaysF0.n6 Try.prog ren := {
  mixed := by kernel_rfl
  f6 := ⟨Try.f64.name, by decide, Try.func64.trans (congrArg some (by kernel_rfl))⟩
  f14 := ⟨Try.f78.name, by decide, Try.func78.trans (congrArg some (by kernel_rfl))⟩
  f15 := Try.func61.trans (congrArg some (by kernel_rfl))
  f20 := ⟨Try.f84.name, by decide, Try.func84.trans (congrArg some (by kernel_rfl))⟩
  f21 := ⟨Try.f85.name, by decide, Try.func85.trans (congrArg some (by kernel_rfl))⟩
  f22 := ⟨Try.f86.name, by decide, Try.func86.trans (congrArg some (by kernel_rfl))⟩
  f23 := ⟨Try.f87.name, by decide, Try.func87.trans (congrArg some (by kernel_rfl))⟩
  f24 := ⟨Try.f88.name, by decide, Try.func88.trans (congrArg some (by kernel_rfl))⟩
  f25 := ⟨Try.f89.name, by decide, Try.func89.trans (congrArg some (by kernel_rfl))⟩
  f26 := ⟨Try.f90.name, by decide, Try.func90.trans (congrArg some (by kernel_rfl))⟩
  f27 := ⟨Try.f91.name, by decide, Try.func91.trans (congrArg some (by kernel_rfl))⟩
  f28 := Try.func75.trans (congrArg some (by kernel_rfl))
  f29 := Try.func76.trans (congrArg some (by kernel_rfl))
  f46 := ⟨Try.f93.name, by decide, Try.func93.trans (congrArg some (by kernel_rfl))⟩
  f47 := Try.func80.trans (congrArg some (by kernel_rfl))
  f48 := Try.func81.trans (congrArg some (by kernel_rfl))
  f49 := ⟨Try.f94.name, by decide, Try.func94.trans (congrArg some (by kernel_rfl))⟩
  f50 := ⟨Try.f95.name, by decide, Try.func95.trans (congrArg some (by kernel_rfl))⟩
  f57 := ⟨Try.f96.name, by decide, Try.func96.trans (congrArg some (by kernel_rfl))⟩
  t0 := Try.underlying0
  a0 := Try.isAgg0
  z0 := Try.sizeOf0
  v0 := Try.zeroValue0
  t3 := Try.underlying3
  a3 := Try.isAgg3
  z3 := Try.sizeOf3
  v3 := Try.zeroValue3
  t4 := Try.underlying4
  a4 := Try.isAgg4
  z4 := Try.sizeOf4
  v4 := Try.zeroValue4
  t5 := Try.underlying5
  a5 := Try.isAgg5
  z5 := Try.sizeOf5
  v5 := Try.zeroValue5
  t9 := Try.underlying9
  a9 := Try.isAgg9
  z9 := Try.sizeOf9
  v9 := Try.zeroValue9
  t22 := Try.underlying22
  a22 := Try.isAgg22
  z22 := Try.sizeOf22
  v22 := Try.zeroValue22
  t25 := Try.underlying96
  a25 := Try.isAgg96
  z25 := Try.sizeOf96
  v25 := Try.zeroValue96
  t39 := Try.underlying91
  a39 := Try.isAgg91
  z39 := Try.sizeOf91
  v39 := Try.zeroValue91
  t45 := Try.underlying98
  a45 := Try.isAgg98
  z45 := Try.sizeOf98
  v45 := Try.zeroValue98
  t46 := Try.underlying99
  a46 := Try.isAgg99
  z46 := Try.sizeOf99
  v46 := Try.zeroValue99
  t50 := Try.underlying67
  a50 := Try.isAgg67
  z50 := Try.sizeOf67
  v50 := Try.zeroValue67
  t53 := Try.underlying105
  a53 := Try.isAgg105
  z53 := Try.sizeOf105
  v53 := Try.zeroValue105
  t55 := Try.underlying107
  a55 := Try.isAgg107
  z55 := Try.sizeOf107
  v55 := Try.zeroValue107
  t66 := Try.underlying110
  a66 := Try.isAgg110
  z66 := Try.sizeOf110
  v66 := Try.zeroValue110
  t70 := Try.underlying114
  a70 := Try.isAgg114
  z70 := Try.sizeOf114
  v70 := Try.zeroValue114
  t76 := Try.underlying121
  a76 := Try.isAgg121
  z76 := Try.sizeOf121
  v76 := Try.zeroValue121
  t77 := Try.underlying122
  a77 := Try.isAgg122
  z77 := Try.sizeOf122
  v77 := Try.zeroValue122
}

def renO : Ren := ⟨fun | 6 => 44 | 15 => 61 | 14 => 60 | 28 => 75 | 29 => 76 | 20 => 67 | 21 => 68 | 22 => 69 | 23 => 70 | 24 => 71 | 25 => 72 | 26 => 73 | 27 => 74 | 46 => 79 | 47 => 80 | 48 => 81 | 49 => 82 | 50 => 83 | 57 => 92 | n => n, fun | 22 => 33 | 24 => 27 | 25 => 70 | 3 => 3 | 39 => 91 | 0 => 0 | 53 => 105 | 55 => 107 | 4 => 4 | 46 => 99 | 45 => 98 | 50 => 67 | 5 => 5 | 9 => 9 | 66 => 110 | 70 => 114 | 76 => 121 | 77 => 122 | n => n, fun n => n⟩

theorem laysO : SlLaysF0.n6 Try.prog renO := {
  mixed := by kernel_rfl
  f6 := ⟨Try.f44.name, by decide, Try.func44.trans (congrArg some (by kernel_rfl))⟩
  f14 := ⟨Try.f60.name, by decide, Try.func60.trans (congrArg some (by kernel_rfl))⟩
  f15 := Try.func61.trans (congrArg some (by kernel_rfl))
  f20 := ⟨Try.f67.name, by decide, Try.func67.trans (congrArg some (by kernel_rfl))⟩
  f21 := ⟨Try.f68.name, by decide, Try.func68.trans (congrArg some (by kernel_rfl))⟩
  f22 := ⟨Try.f69.name, by decide, Try.func69.trans (congrArg some (by kernel_rfl))⟩
  f23 := ⟨Try.f70.name, by decide, Try.func70.trans (congrArg some (by kernel_rfl))⟩
  f24 := ⟨Try.f71.name, by decide, Try.func71.trans (congrArg some (by kernel_rfl))⟩
  f25 := ⟨Try.f72.name, by decide, Try.func72.trans (congrArg some (by kernel_rfl))⟩
  f26 := ⟨Try.f73.name, by decide, Try.func73.trans (congrArg some (by kernel_rfl))⟩
  f27 := ⟨Try.f74.name, by decide, Try.func74.trans (congrArg some (by kernel_rfl))⟩
  f28 := Try.func75.trans (congrArg some (by kernel_rfl))
  f29 := Try.func76.trans (congrArg some (by kernel_rfl))
  f46 := ⟨Try.f79.name, by decide, Try.func79.trans (congrArg some (by kernel_rfl))⟩
  f47 := Try.func80.trans (congrArg some (by kernel_rfl))
  f48 := Try.func81.trans (congrArg some (by kernel_rfl))
  f49 := ⟨Try.f82.name, by decide, Try.func82.trans (congrArg some (by kernel_rfl))⟩
  f50 := ⟨Try.f83.name, by decide, Try.func83.trans (congrArg some (by kernel_rfl))⟩
  f57 := ⟨Try.f92.name, by decide, Try.func92.trans (congrArg some (by kernel_rfl))⟩
  t0 := Try.underlying0
  a0 := Try.isAgg0
  z0 := Try.sizeOf0
  v0 := Try.zeroValue0
  t3 := Try.underlying3
  a3 := Try.isAgg3
  z3 := Try.sizeOf3
  v3 := Try.zeroValue3
  t4 := Try.underlying4
  a4 := Try.isAgg4
  z4 := Try.sizeOf4
  v4 := Try.zeroValue4
  t5 := Try.underlying5
  a5 := Try.isAgg5
  z5 := Try.sizeOf5
  v5 := Try.zeroValue5
  t9 := Try.underlying9
  a9 := Try.isAgg9
  z9 := Try.sizeOf9
  v9 := Try.zeroValue9
  t22 := Try.underlying33
  a22 := Try.isAgg33
  z22 := Try.sizeOf33
  v22 := Try.zeroValue33
  t25 := Try.underlying70
  a25 := Try.isAgg70
  z25 := Try.sizeOf70
  v25 := Try.zeroValue70
  t39 := Try.underlying91
  a39 := Try.isAgg91
  z39 := Try.sizeOf91
  v39 := Try.zeroValue91
  t45 := Try.underlying98
  a45 := Try.isAgg98
  z45 := Try.sizeOf98
  v45 := Try.zeroValue98
  t46 := Try.underlying99
  a46 := Try.isAgg99
  z46 := Try.sizeOf99
  v46 := Try.zeroValue99
  t50 := Try.underlying67
  a50 := Try.isAgg67
  z50 := Try.sizeOf67
  v50 := Try.zeroValue67
  t53 := Try.underlying105
  a53 := Try.isAgg105
  z53 := Try.sizeOf105
  v53 := Try.zeroValue105
  t55 := Try.underlying107
  a55 := Try.isAgg107
  z55 := Try.sizeOf107
  v55 := Try.zeroValue107
  t66 := Try.underlying110
  a66 := Try.isAgg110
  z66 := Try.sizeOf110
  v66 := Try.zeroValue110
  t70 := Try.underlying114
  a70 := Try.isAgg114
  z70 := Try.sizeOf114
  v70 := Try.zeroValue114
  t76 := Try.underlying121
  a76 := Try.isAgg121
  z76 := Try.sizeOf121
  v76 := Try.zeroValue121
  t77 := Try.underlying122
  a77 := Try.isAgg122
  z77 := Try.sizeOf122
  v77 := Try.zeroValue122
}

end

section
open Go.RowKit
open Go.Sort (grow ahead putRow putCells mapBlock onCells Holds HoldsK flatK putRowK PermIn SortedIn SWO size_flatK get_flatK heap_grow_old)

/-- A dot's two cells. -/
def encD (x : Dt) : List Value := [.int .i64 x.1, .int .i64 x.2]

theorem lt_cfd (x y : Dt) : ltOf cfd x y = dl x y := by
  unfold ltOf cfd
  by_cases h : x = y
  · subst h; simp [dl_irrefl]
  · by_cases h2 : dl x y = true
    · simp [h, h2]
    · simp [h, h2]

theorem swo_cfd : SWO (ltOf cfd) := by
  refine ⟨fun x => ?_, fun x y z h1 h2 => ?_, fun x y z h1 h2 => ?_⟩
  · rw [lt_cfd]; exact dl_irrefl x
  · rw [lt_cfd] at *; exact dl_trans h1 h2
  · rw [lt_cfd] at *
    have k1 : ¬ dl x y = true := by rw [h1]; simp
    have k2 : ¬ dl y z = true := by rw [h2]; simp
    cases hh : dl x z
    · rfl
    · rw [dl_iff] at *; omega

theorem cmp_lays (blk off size : Nat) (w : World) : CmpLays Try.prog 65 #[] encD 2 cfd blk off size w := fun _ _ _ _ x y =>
  (dorder_any x y _).mono fun _ _ ⟨he, q, os, hw⟩ => ⟨he, q, os, hw⟩

theorem flatK_list (d : Array Dt) : (flatK encD 2 d).toList = flat d.toList := by
  apply List.ext_getElem?
  intro t
  by_cases ht : t < d.size * 2
  · have h1 : (flatK encD 2 d)[t]! = (encD d[t / 2]!)[t % 2]! := get_flatK encD 2 d t ht
    have hi : t / 2 < d.toList.length := by simp; omega
    have hi' : t / 2 < d.size := by omega
    obtain ⟨f1, f2⟩ := flat_get d.toList (t / 2) hi
    have e0 : (flatK encD 2 d).toList[t]? = some ((flatK encD 2 d)[t]!) := by
      rw [Array.getElem?_toList, getElem!_pos _ t (by rw [size_flatK]; exact ht), Array.getElem?_eq_getElem (by rw [size_flatK]; exact ht)]
    rw [e0, h1, getElem!_pos d (t / 2) hi']
    rcases Nat.mod_two_eq_zero_or_one t with hm | hm
    · have : t = t / 2 * 2 := by omega
      rw [hm]
      conv => rhs; rw [this]
      rw [f1]
      simp [encD]
    · have : t = t / 2 * 2 + 1 := by omega
      rw [hm]
      conv => rhs; rw [this]
      rw [f2]
      simp [encD]
  · rw [List.getElem?_eq_none (by rw [Array.length_toList, size_flatK]; omega), List.getElem?_eq_none (by rw [flat_length, Array.length_toList]; omega)]

theorem holds_own {w : World} {base g c : Nat} {ds : List Dt} (h : Own w base g ds.length c ds) : HoldsK encD 2 w g 0 ds.toArray := by
  rcases h.2 with ⟨h0, _⟩ | ⟨g', cap', cur, hv, hg, hb, hn, hcap, hsz, ht⟩
  · cases h0
  · cases hv
    intro j hj
    rw [size_flatK] at hj
    have hj' : j < ds.length * 2 := by simpa using hj
    refine ⟨?_, by simp [World.frozen?, hb]⟩
    have h1 : (cur.toList.take (ds.length * 2))[j]? = (flat ds)[j]? := by rw [ht]
    rw [List.getElem?_take_of_lt hj'] at h1
    simp only [World.cell?, hb, Nat.zero_add]
    simp only [Option.isSome_none, Bool.false_eq_true, if_false]
    rw [← Array.getElem?_toList, h1]
    have e := flatK_list ds.toArray
    have e2 : ds.toArray.toList = ds := rfl
    rw [e2] at e
    rw [← e, Array.getElem?_toList, getElem!_pos _ j (by rw [size_flatK]; exact hj), Array.getElem?_eq_getElem (by rw [size_flatK]; exact hj)]
    rfl

theorem sorted_up {ts : List Dt} (hn : ts.Nodup) (h : SortedIn (ltOf cfd) 0 ts.toArray.size ts.toArray) : Up ts := by
  refine List.pairwise_iff_getElem.2 fun i j hi hj hij => ?_
  have := h i j (Nat.zero_le _) hij (by simpa using hj)
  rw [lt_cfd, getElem!_pos _ j (by simpa using hj), getElem!_pos _ i (by simpa using hi)] at this
  have hne : ts[j] ≠ ts[i] := fun e => by
    have := (List.getElem_inj hn).1 e
    omega
  exact dl_total hne (by simpa using this)

theorem heap_sortedK {w : World} {g n : Nat} {os : Array Obj} {cur : Array Value} {e : TypeId} {fr : Nat × Nat} (d : Array Dt) (hb : w.heap[g]? = some (.cells cur e fr)) :
    (sortWorldK encD 2 w g 0 n d os).heap[g]? = some (.cells (putCells id 0 (flatK encD 2 d) cur) e fr) := by
  have hg : g < w.heap.size := (Array.getElem?_eq_some_iff.1 hb).1
  unfold sortWorldK putRowK
  rw [heap_grow_old _ _ (by simpa using hg)]
  simp [putRow, mapBlock, Array.getElem?_modify, hb, onCells]

theorem grownBy_sortedK {w : World} {g n : Nat} {os : Array Obj} (d : Array Dt) : w.grownBy (sortWorldK encD 2 w g 0 n d os) (some g) := by
  unfold sortWorldK putRowK
  refine ⟨rfl, rfl, rfl, by simp, fun k hk hne => ?_⟩
  rw [heap_grow_old _ _ (by simpa using hk)]
  have : g ≠ k := fun e => hne (by rw [e])
  simp [putRow, mapBlock, Array.getElem?_modify, this]

theorem take_putK (cur : Array Value) (ts : List Dt) (h : ts.length * 2 ≤ cur.size) : (putCells id 0 (flatK encD 2 ts.toArray) cur).toList.take (ts.length * 2) = flat ts := by
  have e : (flatK encD 2 ts.toArray).toList = flat ts := flatK_list ts.toArray
  apply List.ext_getElem?
  intro j
  by_cases hj : j < ts.length * 2
  · rw [List.getElem?_take_of_lt hj, Array.getElem?_toList, ← e, Array.getElem?_toList]
    simp [putCells, hj, show j < cur.size by omega]
  · rw [List.getElem?_take_eq_none (by omega), List.getElem?_eq_none (by rw [flat_length]; omega)]

set_option maxHeartbeats 1000000 in
theorem sortSays : SortSays := by
  intro base g c ds w hown hnd hsz
  have eg : ∀ args w, (callFunc 65 args).run Try.prog w = .ok (.enter 65 args) w := enters_of Try.func65 (by kernel_rfl) rfl
  have hgl : g < w.heap.size := (hown.lt g rfl).2
  have hcon := AnyQ.slices_SortFunc lays 2 Try.isAgg24 Try.sizeOf24 encD (fun _ => rfl) (fun x v hv => by simp [encD] at hv; rcases hv with rfl | rfl <;> rfl) cfd swo_cfd 65 #[] g 0 c ds.toArray w eg (cmp_lays g 0 ds.toArray.size w) (holds_own hown) hgl (by simp; omega)
  refine Calls.mono hcon ?_
  rintro e w' ⟨rfl, d', n, os, hp, hs, rfl⟩
  have hsize : d'.size = ds.length := by simpa using hp.1
  have hperm : d'.toList.Perm ds := by
    have := hp.2.2
    have e1 : ds.take d'.size = ds := by rw [hsize, List.take_length]
    simpa [← hsize, e1] using this
  have hup : Up d'.toList := sorted_up (hperm.nodup_iff.2 hnd) (by simpa [hsize] using hs)
  have hrise : d'.toList = rise ds := eq_rise hup (fun d => hperm.mem_iff)
  refine ⟨rfl, ?_, grownBy_sortedK _⟩
  rcases hown.2 with ⟨h0, _⟩ | ⟨g', cap', cur, hv, hg, hb, hn, hcap, hcs, ht⟩
  · cases h0
  · cases hv
    refine ⟨by rw [flat_length, nodup_rise_length hnd], .inr ⟨g, c, _, rfl, hg, heap_sortedK _ hb, hn, hcap, by simp [putCells, hcs], ?_⟩⟩
    rw [← hrise, ← hsize]
    have := take_putK cur d'.toList (by rw [Array.length_toList, hsize]; omega)
    simpa using this

end

section
open Go.RowKit Go.Sort Go.Maps

theorem Own.base {w : World} {b b' g n c : Nat} {L : List Dt} (h : Own w b g n c L) (hb : b' ≤ b) : Own w b' g n c L := by
  obtain ⟨h1, h2⟩ := h
  refine ⟨h1, ?_⟩
  rcases h2 with h2 | ⟨g', cap', cur, hv, hg, r⟩
  · exact .inl h2
  · exact .inr ⟨g', cap', cur, hv, Nat.le_trans hb hg, r⟩

/-- A call answers a new slice that holds L. -/
def GivesN (w : World) (L : List Dt) (e : Ending) (w' : World) : Prop :=
  ∃ g c, e = .returned (.slice (some ⟨g, 0, none⟩) L.length c) ∧ Own w' w.heap.size g L.length c L ∧ Below w.heap.size w w'

set_option maxHeartbeats 1000000 in
theorem rising_any (a : Option Addr) (n c : Nat) (L : List Dt) (w : World) (hs : PS w a n c L) (hd : Dws L) (hn : n ≤ 1000000) :
    Calls Try.prog 29 #[.slice a n c] w (GivesN w (rise L)) := by
  have hp := places_any a n c L w hs hd hn
  go_enter Try.func29, Try.ntmps29
  go_wp2_with (first
    | (go_at_call 48; refine (row_any sortSays _ n (pl L) L w1 hdm (fun d _ => pl_some L d) hd hn).mono ?_; rintro e w2 ⟨g, c2, rfl, ho, b2⟩)
    | (go_at_call 49; refine hp.mono ?_; rintro e w1 ⟨rfl, hdm, b1⟩))
  go_ret
  exact ⟨g, c2, rfl, ho.base b1.size, below2 b1 b2⟩

end
end Go.Proofs.Ytoapblojoblhiaa
