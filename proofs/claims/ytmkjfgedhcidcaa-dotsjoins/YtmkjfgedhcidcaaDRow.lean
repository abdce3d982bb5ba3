/- row: the dots that are a map's keys, in new memory, rising. What the library's sort does to them is taken as said in SortSays (proved behind this). -/
import Derived.Test.YtmkjfgedhcidcaaDPlaces
import Derived.WalkKit
import Derived.WalkSpells
import Derived.WalkLawsBesides
import Derived.Sort.OwnSorted
namespace Go.Proofs.Ytmkjfgedhcidcaa
open Go.RowKit Go.Sort Go.Maps

theorem Try.info23 : (Try.prog.info? 23).map (fun i => (i.zero, i.size, i.bytes)) = some (some (.agg #[.int .i64 0, .int .i64 0]), 2, 16) := by kernel_rfl

/-- The slice of n dots in block g, of this capacity, is of the call's own and holds L. -/
abbrev Own (w : World) (base g n c : Nat) (L : List Dt) : Prop := w.ownsRow base 23 2 (.slice (some ⟨g, 0, none⟩) n c) n (flat L)

theorem Own.ps {w : World} {base g n c : Nat} {L : List Dt} (h : Own w base g n c L) (hl : L.length = n) : PS w (some ⟨g, 0, none⟩) n c L := by
  have hc := h.cells (g := g) rfl
  rcases h.2 with ⟨h0, _⟩ | ⟨g', cap', cur, hv, hg, hb, hn, hcap, _, _⟩
  · cases h0
  · cases hv
    exact ⟨hl, hn, hcap, fun h => (by cases h), fun ad ha j u hj => (by cases ha; exact hc j u hj)⟩

/-- What the library's sort does to a row of dots each of which stands there once. -/
def SortSays : Prop := ∀ (base g c : Nat) (ds : List Dt) (w : World), Own w base g ds.length c ds → ds.Nodup → ds.length ≤ 1000000 →
  Calls Try.prog 38 #[.slice (some ⟨g, 0, none⟩) ds.length c, .func (.func 39) #[] #[]] w fun e w' =>
    e = .returned (.tuple #[]) ∧ Own w' base g ds.length c (rise ds) ∧ w.grownBy w' (some g)

/-- The dots that were met so far. -/
def Coll (D : DataW Unit) (left : Lit → Bool) (cs : List Dt) : Prop := cs.Nodup ∧ Dws cs ∧ ∀ d, Dw d → (d ∈ cs ↔ Maps.has D (kl d) = true ∧ left (kl d) = false)

theorem coll_start (D : DataW Unit) : Coll D (Maps.has D) [] := ⟨List.nodup_nil, fun d hd => by simp at hd, fun d _ => by cases Maps.has D (kl d) <;> simp⟩

theorem Coll.step {D : DataW Unit} {left : Lit → Bool} {cs : List Dt} (h : Coll D left cs) {x : Dt} (hx : Dw x) {y : DataW Unit} (hlk : left (kl x) = true) (hat : ∀ zd, D.atKey (kl x) zd = y) :
    Coll D (fun z => left z && !z.sameKey (kl x)) (cs ++ [x]) := by
  have hhas : Maps.has D (kl x) = true := has_true_of_atKey hat
  have hnew : x ∉ cs := fun hm => by have := ((h.2.2 x hx).1 hm).2; rw [hlk] at this; cases this
  refine ⟨List.nodup_append.2 ⟨h.1, by simp, fun a ha b hb => by simp at hb; subst hb; exact fun e => hnew (e ▸ ha)⟩, fun d hd => ?_, fun d hd => ?_⟩
  · rcases List.mem_append.1 hd with hd | hd
    · exact h.2.1 d hd
    · simp at hd; exact hd ▸ hx
  · by_cases hdx : d = x
    · subst hdx
      simp [hhas, WideAt.sameKey_self (kl_isKey d)]
    · have hs : (kl d).sameKey (kl x) = false := sameKey_ne (fun e => hdx (kl_inj hd hx e))
      simp [h.2.2 d hd, hdx, hs]

theorem cell_two_new (w : World) (x y : Value) (T : TypeId) : ∀ j u, ([x, y] : List Value)[j]? = some u → (w.alloc (.cells #[x, y] T)).cell? ((⟨w.heap.size, 0, none⟩ : Addr).add j) = some u := by
  intro j u hj
  match j, hj with
  | 0, hj => simp at hj; subst hj; simp [Addr.add]
  | 1, hj => simp at hj; subst hj; simp [Addr.add]

theorem cell_two_new1 (w : World) (o : Obj) (x y : Value) (T : TypeId) : ∀ j u, ([x, y] : List Value)[j]? = some u → ((w.alloc o).alloc (.cells #[x, y] T)).cell? ((⟨w.heap.size + 1, 0, none⟩ : Addr).add j) = some u := by
  have := cell_two_new (w.alloc o) x y T
  simpa using this

theorem hid {p : Prop} (h : p) : Hid p := h

theorem nodup_rise_length {l : List Dt} (h : l.Nodup) : (rise l).length = l.length :=
  ((List.perm_ext_iff_of_nodup (up_nodup (up_rise l)) h).2 (fun d => mem_rise d l)).length_eq

set_option maxRecDepth 100000 in
set_option maxHeartbeats 2000000 in
theorem row_has (hsort : SortSays) (b m : Nat) (D : DataW Unit) (S : List Dt) (w : World) (hown : w.ownsMap Try.prog 23 (plainElem (H := Unit) Try.prog 3) b m D) (hS : ∀ d, Dw d → (Maps.has D (kl d) = true ↔ d ∈ S)) (hw : Dws S) (hm : m ≤ 1000000) :
    Calls Try.prog 30 #[.map (some b)] w fun e w' => ∃ g c, e = .returned (.slice (some ⟨g, 0, none⟩) (rise S).length c) ∧ Own w' w.heap.size g (rise S).length c (rise S) ∧ Below w.heap.size w w' := by
  obtain ⟨i0, hi, hz0, hz1, hz2⟩ := info_parts Try.info23
  have hbl := hown.lt
  have hsz := hown.size_le
  go_enter Try.func30, Try.ntmps30
  go_wp2_with (first
    | (at_len; refine wpList_len_own _ rfl _ 33 rfl 23 3 Try.underlying33 _ b m _ rfl hown ?_)
    | (at_make; refine wpList_make_own _ rfl _ _ 28 rfl w.heap.size 23 i0 (.agg #[.int .i64 0, .int .i64 0]) 2 Try.underlying28 hi hz0 hz1 _ _ _ (Maps.size D) rfl rfl rfl (by rw [hz2]; omega) (by unfold maxLen; omega) (Nat.le_refl _) ?_; intro w1 hrow1 hg1)
    | (at_range; refine wpList_range_own _ rfl _ 33 rfl 23 3 law Try.underlying33 _ b m _ rfl (hown.kept hg1 (by simp)) ?_; intro w0 hrg0 hg0 hs0)
    | go_in)
  go_frame
  go_loopw [3] (fun v wr => ∃ (left : Lit → Bool) (cnt : Nat) (cs : List Dt), wr.ranges Try.prog 23 (plainElem (H := Unit) Try.prog 3) b w1.heap.size m D left cnt ∧ cs.length + cnt ≤ Maps.size D ∧
      wr.ownsRow w.heap.size 23 2 v cs.length (flat cs) ∧ v ≠ .slice none 0 0 ∧ Coll D left cs ∧ Below w.heap.size w wr)
    (fun _ wr => wr.rangeLeft b w1.heap.size)
  case atStart =>
    exact ⟨_, _, [], hrg0, by simp, hrow1.kept hg0 (Or.inr (by simp [Value.ownBlock])), by simp, coll_start D,
      ((Below.refl _ _).grown hg1 (Nat.le_refl _) (fun j hj => by cases hj)).grown hg0 hg1.size (fun j hj => by cases hj)⟩
  case round =>
    obtain ⟨left, cnt, cs, hrg, hcs, hrow, hnn, hC, hnx⟩ := hrel
    go_wp2_with (first
      | (at_next; refine wpList_next_ranges _ rfl _ rfl 23 law (plainElem (H := Unit) Try.prog 3) dv (Value.int .i64) (fun key kl hk => by obtain ⟨x, hx, _⟩ := keyOf_dot_inv hk; exact ⟨x, hx⟩) (fun v y hv => by obtain ⟨c, rfl, _⟩ := plainElem_int_inv Try.underlying3 hv; exact ⟨c, rfl⟩) b w1.heap.size m _ _ _ rfl hrg ?_ ?_)
      | go_in)
    · intro hc0 hl0
      rcases hrow.2 with ⟨hnil, _⟩ | ⟨g, cap, cur, rfl, hbase, hb, h1, h2, h3, h4⟩
      · exact absurd hnil hnn
      have hc := hsort w.heap.size g cap cs wr hrow hC.1 (by omega)
      have hrs : rise cs = rise S := up_ext (up_rise _) (up_rise _) (fun d => by
        rw [mem_rise, mem_rise]
        constructor
        · intro hd
          have hdw := hC.2.1 d hd
          exact (hS d hdw).1 ((hC.2.2 d hdw).1 hd).1
        · intro hd
          have hdw := hw d hd
          exact (hC.2.2 d hdw).2 ⟨(hS d hdw).2 hd, hl0 _⟩)
      have hk : Hid (rise cs = rise S ∧ cs.length = (rise S).length) := hid ⟨hrs, by rw [← hrs]; exact (nodup_rise_length hC.1).symm⟩
      clear hrs hc0 hl0
      go_wp2_with (go_at_call 38; refine hc.mono ?_; rintro e w' ⟨rfl, ho', hg'⟩)
      go_ret
      obtain ⟨hrs, hcl⟩ := hk.out
      rw [hrs, hcl] at ho'
      refine ⟨g, cap, by rw [hcl]; rfl, ho', hnx.grown hg' hnx.size (fun j hj => by cases hj; exact hbase)⟩
    · intro x1 x2 c kk yd yp w2 cnt2 hkey hlk hv hat hrg2 hlt hg2 hs2 hen
      obtain ⟨x', ex, hxw, rfl⟩ := keyOf_dot_inv hkey
      obtain rfl : (x1, x2) = x' := (agg_eq (x1, x2) x').1 ex
      have hrow2 := hrow.kept hg2 (Or.inr (row_ne_iter hrow hrg).symm)
      clear hs2
      go_wp2_with (first
        | (at_builtin; refine wpList_append_own _ rfl _ _ 28 rfl w.heap.size 23 i0 (.agg #[.int .i64 0, .int .i64 0]) 2 16 Try.underlying28 hi hz0 hz1 hz2 rfl (by decide) _ _ _ rfl ((hrow2.alloc _).alloc _) ⟨w2.heap.size + 1, 0, none⟩ 1 1 [.int .i64 x1, .int .i64 x2] rfl rfl (cell_two_new1 _ _ _ _ _) (by simp [Value.oneCell']) (by unfold maxLen at *; omega) (by omega) (by have := hnx.size; have := hg2.size; simp; omega) ?_; intro v' w3 hown' hg3 hnil3; go_frame)
        | go_in)
      have hrg3 := ((hrg2.alloc _).alloc _).kept hg3 (row_ne_low hrow2 hbl) (row_ne_iter hrow2 hrg2)
      go_roundw
      case rel =>
        refine ⟨_, cnt2, cs ++ [(x1, x2)], hrg3, by simp; omega, by simpa [flat_append, flat] using hown', fun hv' => by have := (hnil3.1 hv').2; omega, hC.step hxw hlk hat, ?_⟩
        exact (((hnx.grown hg2 hnx.size (fun j hj => by cases hj; exact hg1.size)).alloc (by have := hnx.size; have := hg2.size; omega) _).alloc (by have := hnx.size; have := hg2.size; simp; omega) _).grown hg3 (by have := hnx.size; have := hg2.size; simp; omega) (fun j hj => (hrow2.lt j hj).1)
      case measure => rw [hrg3.left_eq, hrg.left_eq]; exact hlt

theorem row_any (hsort : SortSays) (b m : Nat) (f : Dt → Option Int) (S : List Dt) (w : World) (hdm : DM w b m f) (hS : ∀ d, Dw d → ((f d).isSome = true ↔ d ∈ S)) (hw : Dws S) (hm : m ≤ 1000000) :
    Calls Try.prog 30 #[.map (some b)] w fun e w' => ∃ g c, e = .returned (.slice (some ⟨g, 0, none⟩) (rise S).length c) ∧ Own w' w.heap.size g (rise S).length c (rise S) ∧ Below w.heap.size w w' := by
  obtain ⟨D, hown, hT⟩ := hdm
  exact row_has hsort b m D S w hown (fun d hd => by rw [(hT d hd).1]; exact hS d hd) hw hm

end Go.Proofs.Ytmkjfgedhcidcaa
