/- What the library's sort does to a row of dots, each of which stands there once: they rise. -/
import Derived.Test.YtmkjfgedhcidcaaDRow
import Derived.Test.YtmkjfgedhcidcaaDShelf
namespace Go.Proofs.Ytmkjfgedhcidcaa
open Go.RowKit
open Go.Sort (grow ahead putRow putCells mapBlock onCells Holds HoldsK flatK putRowK PermIn SortedIn SWO size_flatK get_flatK heap_grow_old)

/-- A dot's two cells. -/
def encD (x : Dt) : List Value := [.int .i64 x.1, .int .i64 x.2]

theorem lt_cfd (x y : Dt) : ltOf cfd x y = dl x y := by
  unfold ltOf cfd
  by_cases h : x = y
  · subst h; simp [dl_irrefl]
  · by_cases h2 : dl x y = true
    · simp [h, h2]
    · simp [h, h2]

theorem swo_cfd : SWO (ltOf cfd) := by
  refine ⟨fun x => ?_, fun x y z h1 h2 => ?_, fun x y z h1 h2 => ?_⟩
  · rw [lt_cfd]; exact dl_irrefl x
  · rw [lt_cfd] at *; exact dl_trans h1 h2
  · rw [lt_cfd] at *
    have k1 : ¬ dl x y = true := by rw [h1]; simp
    have k2 : ¬ dl y z = true := by rw [h2]; simp
    cases hh : dl x z
    · rfl
    · rw [dl_iff] at *; omega

theorem cmp_lays (blk off size : Nat) (w : World) : CmpLays Try.prog 39 #[] encD 2 cfd blk off size w := fun _ _ _ _ x y =>
  (order_any x y _).mono fun _ _ ⟨he, os, hw⟩ => ⟨he, 0, os, hw⟩

theorem flatK_list (d : Array Dt) : (flatK encD 2 d).toList = flat d.toList := by
  apply List.ext_getElem?
  intro t
  by_cases ht : t < d.size * 2
  · have h1 : (flatK encD 2 d)[t]! = (encD d[t / 2]!)[t % 2]! := get_flatK encD 2 d t ht
    have hi : t / 2 < d.toList.length := by simp; omega
    have hi' : t / 2 < d.size := by omega
    obtain ⟨f1, f2⟩ := flat_get d.toList (t / 2) hi
    have e0 : (flatK encD 2 d).toList[t]? = some ((flatK encD 2 d)[t]!) := by
      rw [Array.getElem?_toList, getElem!_pos _ t (by rw [size_flatK]; exact ht), Array.getElem?_eq_getElem (by rw [size_flatK]; exact ht)]
    rw [e0, h1, getElem!_pos d (t / 2) hi']
    rcases Nat.mod_two_eq_zero_or_one t with hm | hm
    · have : t = t / 2 * 2 := by omega
      rw [hm]
      conv => rhs; rw [this]
      rw [f1]
      simp [encD]
    · have : t = t / 2 * 2 + 1 := by omega
      rw [hm]
      conv => rhs; rw [this]
      rw [f2]
      simp [encD]
  · rw [List.getElem?_eq_none (by rw [Array.length_toList, size_flatK]; omega), List.getElem?_eq_none (by rw [flat_length, Array.length_toList]; omega)]

theorem holds_own {w : World} {base g c : Nat} {ds : List Dt} (h : Own w base g ds.length c ds) : HoldsK encD 2 w g 0 ds.toArray := by
  rcases h.2 with ⟨h0, _⟩ | ⟨g', cap', cur, hv, hg, hb, hn, hcap, hsz, ht⟩
  · cases h0
  · cases hv
    intro j hj
    rw [size_flatK] at hj
    have hj' : j < ds.length * 2 := by simpa using hj
    refine ⟨?_, by simp [World.frozen?, hb]⟩
    have h1 : (cur.toList.take (ds.length * 2))[j]? = (flat ds)[j]? := by rw [ht]
    rw [List.getElem?_take_of_lt hj'] at h1
    simp only [World.cell?, hb, Nat.zero_add]
    simp only [Option.isSome_none, Bool.false_eq_true, if_false]
    rw [← Array.getElem?_toList, h1]
    have e := flatK_list ds.toArray
    have e2 : ds.toArray.toList = ds := rfl
    rw [e2] at e
    rw [← e, Array.getElem?_toList, getElem!_pos _ j (by rw [size_flatK]; exact hj), Array.getElem?_eq_getElem (by rw [size_flatK]; exact hj)]
    rfl

theorem sorted_up {ts : List Dt} (hn : ts.Nodup) (h : SortedIn (ltOf cfd) 0 ts.toArray.size ts.toArray) : Up ts := by
  refine List.pairwise_iff_getElem.2 fun i j hi hj hij => ?_
  have := h i j (Nat.zero_le _) hij (by simpa using hj)
  rw [lt_cfd, getElem!_pos _ j (by simpa using hj), getElem!_pos _ i (by simpa using hi)] at this
  have hne : ts[j] ≠ ts[i] := fun e => by
    have := (List.getElem_inj hn).1 e
    omega
  exact dl_total hne (by simpa using this)

theorem heap_sortedK {w : World} {g n : Nat} {os : Array Obj} {cur : Array Value} {e : TypeId} {fr : Nat × Nat} (d : Array Dt) (hb : w.heap[g]? = some (.cells cur e fr)) :
    (sortWorldK encD 2 w g 0 n d os).heap[g]? = some (.cells (putCells id 0 (flatK encD 2 d) cur) e fr) := by
  have hg : g < w.heap.size := (Array.getElem?_eq_some_iff.1 hb).1
  unfold sortWorldK putRowK
  rw [heap_grow_old _ _ (by simpa using hg)]
  simp [putRow, mapBlock, Array.getElem?_modify, hb, onCells]

theorem grownBy_sortedK {w : World} {g n : Nat} {os : Array Obj} (d : Array Dt) : w.grownBy (sortWorldK encD 2 w g 0 n d os) (some g) := by
  unfold sortWorldK putRowK
  refine ⟨rfl, rfl, rfl, by simp, fun k hk hne => ?_⟩
  rw [heap_grow_old _ _ (by simpa using hk)]
  have : g ≠ k := fun e => hne (by rw [e])
  simp [putRow, mapBlock, Array.getElem?_modify, this]

theorem take_putK (cur : Array Value) (ts : List Dt) (h : ts.length * 2 ≤ cur.size) : (putCells id 0 (flatK encD 2 ts.toArray) cur).toList.take (ts.length * 2) = flat ts := by
  have e : (flatK encD 2 ts.toArray).toList = flat ts := flatK_list ts.toArray
  apply List.ext_getElem?
  intro j
  by_cases hj : j < ts.length * 2
  · rw [List.getElem?_take_of_lt hj, Array.getElem?_toList, ← e, Array.getElem?_toList]
    simp [putCells, hj, show j < cur.size by omega]
  · rw [List.getElem?_take_eq_none (by omega), List.getElem?_eq_none (by rw [flat_length]; omega)]

set_option maxHeartbeats 1000000 in
theorem sortSays : SortSays := by
  intro base g c ds w hown hnd hsz
  have eg : ∀ args w, (callFunc 39 args).run Try.prog w = .ok (.enter 39 args) w := enters_of Try.func39 (by kernel_rfl) rfl
  have hgl : g < w.heap.size := (hown.lt g rfl).2
  have hcon := AnyQ.slices_SortFunc lays 2 Try.isAgg23 Try.sizeOf23 encD (fun _ => rfl) (fun x v hv => by simp [encD] at hv; rcases hv with rfl | rfl <;> rfl) cfd swo_cfd 39 #[] g 0 c ds.toArray w eg (cmp_lays g 0 ds.toArray.size w) (holds_own hown) hgl (by simp; omega)
  refine Calls.mono hcon ?_
  rintro e w' ⟨rfl, d', n, os, hp, hs, rfl⟩
  have hsize : d'.size = ds.length := by simpa using hp.1
  have hperm : d'.toList.Perm ds := by
    have := hp.2.2
    have e1 : ds.take d'.size = ds := by rw [hsize, List.take_length]
    simpa [← hsize, e1] using this
  have hup : Up d'.toList := sorted_up (hperm.nodup_iff.2 hnd) (by simpa [hsize] using hs)
  have hrise : d'.toList = rise ds := eq_rise hup (fun d => hperm.mem_iff)
  refine ⟨rfl, ?_, grownBy_sortedK _⟩
  rcases hown.2 with ⟨h0, _⟩ | ⟨g', cap', cur, hv, hg, hb, hn, hcap, hcs, ht⟩
  · cases h0
  · cases hv
    refine ⟨by rw [flat_length, nodup_rise_length hnd], .inr ⟨g, c, _, rfl, hg, heap_sortedK _ hb, hn, hcap, by simp [putCells, hcs], ?_⟩⟩
    rw [← hrise, ← hsize]
    have := take_putK cur d'.toList (by rw [Array.length_toList, hsize]; omega)
    simpa using this

end Go.Proofs.Ytmkjfgedhcidcaa
