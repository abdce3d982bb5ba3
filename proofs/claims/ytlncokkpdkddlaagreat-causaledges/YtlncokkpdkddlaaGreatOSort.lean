/- What the library's sort does to a row of operations. -/
import Derived.Test.YtlncokkpdkddlaaGreatORow
import Derived.Test.YtlncokkpdkddlaaGreatMRise
namespace Go.Proofs.YtlncokkpdkddlaaGreat
open Go.RowKit
open Go.Sort (grow ahead putRow putCells mapBlock onCells Holds HoldsK flatK putRowK PermIn SortedIn SWO size_flatK get_flatK heap_grow_old)

/-- What order answers. -/
def cfo (x y : Mo) : Int := if lo x.o y.o = true then -1 else if lo y.o x.o = true then 1 else 0

theorem lo_iff (o p : OpIn) : lo o p = true ↔ o.time < p.time ∨ (o.time = p.time ∧ (o.id0 < p.id0 ∨ (o.id0 = p.id0 ∧ o.id1 < p.id1))) := by
  unfold lo
  simp only [Bool.or_eq_true, Bool.and_eq_true, decide_eq_true_eq, beq_iff_eq, dl_iff]

theorem lo_irrefl (o : OpIn) : lo o o = false := by
  cases h : lo o o
  · rfl
  · rw [lo_iff] at h; omega

theorem lt_cfo (x y : Mo) : ltOf cfo x y = lo x.o y.o := by
  unfold ltOf cfo
  cases h : lo x.o y.o
  · cases h2 : lo y.o x.o <;> simp
  · simp

theorem swo_cfo : SWO (ltOf cfo) := by
  refine ⟨fun x => ?_, fun x y z h1 h2 => ?_, fun x y z h1 h2 => ?_⟩
  · rw [lt_cfo]; exact lo_irrefl _
  · rw [lt_cfo] at *
    rw [lo_iff] at *
    omega
  · rw [lt_cfo] at *
    have k1 : ¬ lo x.o y.o = true := by rw [h1]; simp
    have k2 : ¬ lo y.o z.o = true := by rw [h2]; simp
    cases hh : lo x.o z.o
    · rfl
    · rw [lo_iff] at *; omega

set_option maxRecDepth 100000 in
set_option maxHeartbeats 1000000 in
theorem order_any (x y : Mo) (w : World) : Tells 44 #[ov x.o x.dep, ov y.o y.dep] w (.int .i64 (cfo x y)) := by
  obtain ⟨hA, hB, hF⟩ := two_ops w x.o y.o x.dep y.dep
  have hL := fun W => oless_any x.o y.o x.dep y.dep W
  have hM := fun W => oless_any y.o x.o y.dep x.dep W
  have hc : Hid (cfo x y = if lo x.o y.o = true then -1 else if lo y.o x.o = true then 1 else 0) := hid rfl
  obtain ⟨a0, a1, a2, a3, a4, a5, a6, a7, a8, a9, a10, a11, a12, a13⟩ := hA
  obtain ⟨b0, b1, b2, b3, b4, b5, b6, b7, b8, b9, b10, b11, b12, b13⟩ := hB
  have hsame : lo x.o y.o = true → lo y.o x.o = true → False := fun h1 h2 => by rw [lo_iff] at *; omega
  have HS := hid hsame
  clear hsame
  cases h1 : lo x.o y.o
  · rw [h1] at hL hc
    cases h2 : lo y.o x.o
    all_goals
      rw [h2] at hM hc
      clear h1 h2
      go_enter Tryz.func44, Tryz.ntmps44
      go_wp2_with (first
        | (go_at_call 65; have hq := hF1; refine (hM _).mono ?_; rintro e w2 ⟨rfl, hF2⟩)
        | (go_at_call 65; refine (hL _).mono ?_; rintro e w1 ⟨rfl, hF1⟩; have hA1 := (two_ops w x.o y.o x.dep y.dep).1.far hF1; have hB1 := (two_ops w x.o y.o x.dep y.dep).2.1.far hF1; obtain ⟨a0, a1, a2, a3, a4, a5, a6, a7, a8, a9, a10, a11, a12, a13⟩ := hA1; obtain ⟨b0, b1, b2, b3, b4, b5, b6, b7, b8, b9, b10, b11, b12, b13⟩ := hB1))
      go_ret
      exact ⟨by rw [hc.out]; rfl, (hF.trans hF1).trans hF2⟩
  · rw [h1] at hL hc
    clear h1
    go_enter Tryz.func44, Tryz.ntmps44
    go_wp2_with (first
      | (go_at_call 65; refine (hL _).mono ?_; rintro e w1 ⟨rfl, hF1⟩))
    go_ret
    exact ⟨by rw [hc.out]; rfl, hF.trans hF1⟩

/-- Each one comes ahead of those behind it. -/
abbrev UpO (l : List Mo) : Prop := l.Pairwise (fun x y => lo x.o y.o = true)

theorem lo_total {o p : OpIn} (hne : o.id ≠ p.id) (h : ¬ lo p o = true) : lo o p = true := by
  rw [lo_iff] at *
  have : ¬ (o.id0 = p.id0 ∧ o.id1 = p.id1) := fun e => hne (Prod.ext e.1 e.2)
  omega

section
variable [Inhabited Mo]

theorem cmp_layso (blk off size : Nat) (w : World) : CmpLays Tryz.prog 44 #[] Mo.cells 14 cfo blk off size w := fun _ _ _ _ x y =>
  (order_any x y _).mono fun _ _ ⟨he, q, os, hw⟩ => ⟨he, q, os, hw⟩

theorem flatO_list (d : Array Mo) : (flatK Mo.cells 14 d).toList = flo d.toList := by
  apply List.ext_getElem?
  intro t
  by_cases ht : t < d.size * 14
  · have h1 : (flatK Mo.cells 14 d)[t]! = (Mo.cells d[t / 14]!)[t % 14]! := get_flatK Mo.cells 14 d t ht
    have hi : t / 14 < d.toList.length := by simp; omega
    have hi' : t / 14 < d.size := by omega
    have f := flo_get d.toList (t / 14) hi (t % 14) (by omega)
    have e0 : (flatK Mo.cells 14 d).toList[t]? = some ((flatK Mo.cells 14 d)[t]!) := by
      rw [Array.getElem?_toList, getElem!_pos _ t (by rw [size_flatK]; exact ht), Array.getElem?_eq_getElem (by rw [size_flatK]; exact ht)]
    rw [e0, h1, getElem!_pos d (t / 14) hi']
    have et : t / 14 * 14 + t % 14 = t := by omega
    rw [et] at f
    rw [f]
    have hm : t % 14 < (d.toList[t / 14]).cells.length := by simp [Mo.cells]; omega
    rw [List.getElem?_eq_getElem hm, getElem!_pos _ _ (by simpa using hm)]
    simp
  · rw [List.getElem?_eq_none (by rw [Array.length_toList, size_flatK]; omega), List.getElem?_eq_none (by rw [flo_length, Array.length_toList]; omega)]

theorem holds_owno {w : World} {base g c : Nat} {ds : List Mo} (h : OwnO w base (.slice (some ⟨g, 0, none⟩) ds.length c) ds) : HoldsK Mo.cells 14 w g 0 ds.toArray := by
  rcases h.2 with ⟨h0, _⟩ | ⟨g', cap', cur, hv, hg, hb, hn, hcap, hsz, ht⟩
  · cases h0
  · cases hv
    intro j hj
    rw [size_flatK] at hj
    have hj' : j < ds.length * 14 := by simpa using hj
    refine ⟨?_, by simp [World.frozen?, hb]⟩
    have h1 : (cur.toList.take (ds.length * 14))[j]? = (flo ds)[j]? := by rw [ht]
    rw [List.getElem?_take_of_lt hj'] at h1
    simp only [World.cell?, hb, Nat.zero_add]
    simp only [Option.isSome_none, Bool.false_eq_true, if_false]
    rw [← Array.getElem?_toList, h1]
    have e := flatO_list ds.toArray
    have e2 : ds.toArray.toList = ds := rfl
    rw [e2] at e
    rw [← e, Array.getElem?_toList, getElem!_pos _ j (by rw [size_flatK]; exact hj), Array.getElem?_eq_getElem (by rw [size_flatK]; exact hj)]
    rfl

theorem sorted_upo {ts : List Mo} (hn : (ts.map (fun x => x.o.id)).Nodup) (h : SortedIn (ltOf cfo) 0 ts.toArray.size ts.toArray) : UpO ts := by
  refine List.pairwise_iff_getElem.2 fun i j hi hj hij => ?_
  have := h i j (Nat.zero_le _) hij (by simpa using hj)
  rw [lt_cfo, getElem!_pos _ j (by simpa using hj), getElem!_pos _ i (by simpa using hi)] at this
  have hne : (ts[i]).o.id ≠ (ts[j]).o.id := fun e => by
    have := (List.getElem_inj (i := i) (j := j) (h₀ := by simpa using hi) (h₁ := by simpa using hj) hn).1 (by simpa using e)
    omega
  exact lo_total hne (by simpa using this)

theorem heap_sortedO {w : World} {g n : Nat} {os : Array Obj} {cur : Array Value} {e : TypeId} {fr : Nat × Nat} (d : Array Mo) (hb : w.heap[g]? = some (.cells cur e fr)) :
    (sortWorldK Mo.cells 14 w g 0 n d os).heap[g]? = some (.cells (putCells id 0 (flatK Mo.cells 14 d) cur) e fr) := by
  have hg : g < w.heap.size := (Array.getElem?_eq_some_iff.1 hb).1
  unfold sortWorldK putRowK
  rw [heap_grow_old _ _ (by simpa using hg)]
  simp [putRow, mapBlock, Array.getElem?_modify, hb, onCells]

theorem grownBy_sortedO {w : World} {g n : Nat} {os : Array Obj} (d : Array Mo) : w.grownBy (sortWorldK Mo.cells 14 w g 0 n d os) (some g) := by
  unfold sortWorldK putRowK
  refine ⟨rfl, rfl, rfl, by simp, fun k hk hne => ?_⟩
  rw [heap_grow_old _ _ (by simpa using hk)]
  have : g ≠ k := fun e => hne (by rw [e])
  simp [putRow, mapBlock, Array.getElem?_modify, this]

theorem take_putO (cur : Array Value) (ts : List Mo) (h : ts.length * 14 ≤ cur.size) : (putCells id 0 (flatK Mo.cells 14 ts.toArray) cur).toList.take (ts.length * 14) = flo ts := by
  have e : (flatK Mo.cells 14 ts.toArray).toList = flo ts := flatO_list ts.toArray
  apply List.ext_getElem?
  intro j
  by_cases hj : j < ts.length * 14
  · rw [List.getElem?_take_of_lt hj, Array.getElem?_toList, ← e, Array.getElem?_toList]
    simp [putCells, hj, show j < cur.size by omega]
  · rw [List.getElem?_take_eq_none (by omega), List.getElem?_eq_none (by rw [flo_length]; omega)]

end

set_option maxHeartbeats 1000000 in
theorem sorto_any (base g c : Nat) (ds : List Mo) (w : World) (hown : OwnO w base (.slice (some ⟨g, 0, none⟩) ds.length c) ds) (hnd : (ds.map (fun x => x.o.id)).Nodup) (hsz : ds.length ≤ 1000000) :
    Calls Tryz.prog 43 #[.slice (some ⟨g, 0, none⟩) ds.length c, .func (.func 44) #[] #[]] w fun e w' =>
      e = .returned (.tuple #[]) ∧ ∃ ts, ts.Perm ds ∧ UpO ts ∧ OwnO w' base (.slice (some ⟨g, 0, none⟩) ds.length c) ts ∧ w.grownBy w' (some g) := by
  haveI : Inhabited Mo := ⟨⟨⟨0, 0, 0, 0, 0, 0, 0, 0, 0, 0, 0, 0, ByteArray.empty⟩, none, 0, 0, []⟩⟩
  have eg : ∀ args w, (callFunc 44 args).run Tryz.prog w = .ok (.enter 44 args) w := enters_of Tryz.func44 (by kernel_rfl) rfl
  have hgl : g < w.heap.size := (hown.lt g rfl).2
  have hcon := AnyQ.slices_SortFunc laysO 14 Tryz.isAgg36 Tryz.sizeOf36 Mo.cells (fun _ => rfl) (fun x v hv => flo_one [x] v (by simpa [flo] using hv)) cfo swo_cfo 44 #[] g 0 c ds.toArray w eg (cmp_layso g 0 ds.toArray.size w) (holds_owno hown) hgl (by simp; omega)
  refine Calls.mono hcon ?_
  rintro e w' ⟨rfl, d', n, os, hp, hs, rfl⟩
  have hsize : d'.size = ds.length := by simpa using hp.1
  have hperm : d'.toList.Perm ds := by
    have := hp.2.2
    have e1 : ds.take d'.size = ds := by rw [hsize, List.take_length]
    simpa [← hsize, e1] using this
  have hup : UpO d'.toList := sorted_upo ((hperm.map (fun x => x.o.id)).nodup_iff.2 hnd) (by simpa [hsize] using hs)
  refine ⟨rfl, d'.toList, hperm, hup, ?_, grownBy_sortedO _⟩
  rcases hown.2 with ⟨h0, _⟩ | ⟨g', cap', cur, hv, hg, hb, hn, hcap, hcs, ht⟩
  · cases h0
  · cases hv
    refine ⟨by rw [flo_length], .inr ⟨g, c, _, by simp [hsize], hg, heap_sortedO _ hb, by rw [Array.length_toList, hsize]; exact hn, hcap, by simp [putCells, hcs], ?_⟩⟩
    have := take_putO cur d'.toList (by rw [Array.length_toList, hsize]; omega)
    simpa using this

end Go.Proofs.YtlncokkpdkddlaaGreat
