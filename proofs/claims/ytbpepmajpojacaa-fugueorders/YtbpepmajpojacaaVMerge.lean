/- merge, Join and Meet: of each actor of both, what is picked. -/
import Derived.Test.YtbpepmajpojacaaProg
import Derived.Test.YtbpepmajpojacaaMCmp
import Derived.WalkKit
import Derived.Below
import Derived.DeepKeys4
import Derived.Maps.OwnSet
import Derived.Maps.RangeWalk
import Derived.Maps.GroupsBeside
import Derived.WideKeyEntry
import Derived.Deep.AppendLies
namespace Go.Proofs.Ytbpepmajpojacaa
section
open Go.RowKit Go.Sort Go.Maps

theorem laidOut0 : laidOutB Try.prog = true := by kernel_rfl
theorem dotRow : (24 : TypeId) < Try.prog.types.size := of_decide_eq_true (by kernel_rfl)
theorem dotCells : Try.prog.cellsOf 24 = 2 := by kernel_rfl
theorem intCells : Try.prog.cellsOf 3 = 1 := by kernel_rfl
theorem dotKey : Try.prog.keyType 24 = true := by kernel_rfl
theorem dotWide : (match Try.prog.underlying 24 with | some (.array _ _) | some (.struct _) => true | _ => false) = true := by rw [Try.underlying24]
set_option maxRecDepth 100000 in
theorem law : Keyed Try.prog 24 := Keyed.of_law (deep_law_laid laidOut0 (m := 2) (by omega) dotRow (by kernel_rfl) dotWide)

/-- What a dot reads as, as a key. -/
def kl (d : Dt) : Lit := .string (keyBytes [.int .i64 d.1, .int .i64 d.2])

theorem dotFormed (a b : Value) : (Value.agg #[a, b]).formed Try.prog 24 = true := by simp [Value.formed, Try.underlying24, dotCells]

theorem typesNum : Try.prog.types.size = 139 := by kernel_rfl

theorem lits_int (n : Nat) {a : Int} (h : (Lit.int .i64 a).wf = true) : Try.prog.keyLits (n + 1) 3 [.int .i64 a] = some [.int .i64 a] := by
  unfold Program.keyLits
  rw [Try.underlying3]
  simp [h]

theorem lits_dot (n : Nat) {d : Dt} (h : Dw d) : Try.prog.keyLits (n + 2) 24 [.int .i64 d.1, .int .i64 d.2] = some [.int .i64 d.1, .int .i64 d.2] := by
  unfold Program.keyLits
  rw [Try.underlying24]
  simp [dotCells, intCells, lits_int n h.1, lits_int n h.2]

theorem keyOf_dot {d : Dt} (h : Dw d) : keyOf Try.prog 24 (dv d) = some (kl d) := by
  unfold keyOf
  rw [Try.underlying24]
  simp only [dotKey, dotFormed, Bool.and_self, if_true, typesNum]
  have : (dv d).cells.toList = [.int .i64 d.1, .int .i64 d.2] := rfl
  rw [this, lits_dot 138 h]
  rfl

set_option maxRecDepth 100000 in
theorem keyOf_dot_inv {v : Value} {l : Lit} (h : keyOf Try.prog 24 v = some l) : ∃ d : Dt, v = dv d ∧ Dw d ∧ l = kl d := by
  unfold keyOf at h
  rw [Try.underlying24] at h
  simp only [typesNum] at h
  split at h
  · rename_i hf
    obtain ⟨ls, hl, rfl⟩ := Option.map_eq_some_iff.1 h
    simp only [Bool.and_eq_true] at hf
    have hf2 := hf.2
    unfold Program.keyLits at hl
    rw [Try.underlying24] at hl
    cases v <;> simp [Value.formed, Try.underlying24, dotCells] at hf2
    rename_i cs
    obtain ⟨cs⟩ := cs
    match cs, hf2 with
    | [x, y], _ =>
      simp [dotCells, intCells, Value.cells] at hl
      obtain ⟨l0, h0⟩ : ∃ l0, Try.prog.keyLits 139 3 [x] = some l0 := by
        cases hh : Try.prog.keyLits 139 3 [x]
        · rw [hh] at hl; simp at hl
        · exact ⟨_, rfl⟩
      obtain ⟨l1, h1⟩ : ∃ l1, Try.prog.keyLits 139 3 [y] = some l1 := by
        cases hh : Try.prog.keyLits 139 3 [y]
        · rw [h0, hh] at hl; simp at hl
        · exact ⟨_, rfl⟩
      rw [h0, h1] at hl
      simp at hl
      subst hl
      obtain ⟨n0, e0, rfl⟩ := keyLits_int' Try.underlying3 h0
      obtain ⟨n1, e1, rfl⟩ := keyLits_int' Try.underlying3 h1
      simp at e0 e1
      subst e0
      subst e1
      refine ⟨(n0, n1), rfl, ⟨?_, ?_⟩, rfl⟩
      · unfold Program.keyLits at h0
        rw [Try.underlying3] at h0
        simpa using h0
      · unfold Program.keyLits at h1
        rw [Try.underlying3] at h1
        simpa using h1
  · cases h

theorem kl_inj {a b : Dt} (ha : Dw a) (hb : Dw b) (h : kl a = kl b) : a = b := by
  have := law.inj (keyOf_dot ha) (h ▸ keyOf_dot hb)
  exact (agg_eq a b).1 this

theorem kl_isKey (d : Dt) : WideAt.IsKeyLit (kl d) := trivial

theorem zero3 (w : World) : (zeroValue 3).run Try.prog w = .ok (.int .i64 0) w := Try.zeroValue3 w

end

section
open Go.RowKit Go.Maps Go.WideElems Go.MapKept Go.ChangeShapes
open Go.ChangeMaps (setBlock heap_setBlock_same heap_setBlock_other modify_eq_set)

set_option maxRecDepth 100000 in
theorem lawK : WideMaps.KeyLaw Try.prog 24 := deep_law_laid laidOut0 (m := 2) (by omega) dotRow (by kernel_rfl) dotWide

section
variable {P : Program} {k : TypeId} {t E : TypeId} {b : Nat} {es : Array MapEntry} {clock : Nat} {R : Value → Option (DataW Unit × List MemPlace)} {key : Value} {kl : Lit} {z : Value}

theorem one_place {j j' : Nat} {e0 e1 : MapEntry} (hs : es.toList.Pairwise (fun x y => x.key ≠ y.key)) (h : es.toList[j]? = some e0) (h' : es.toList[j']? = some e1) (he : e0.key = e1.key) : j = j' := by
  obtain ⟨a1, b1⟩ := List.getElem?_eq_some_iff.1 h
  obtain ⟨a2, b2⟩ := List.getElem?_eq_some_iff.1 h'
  rcases Nat.lt_trichotomy j j' with hlt | heq | hgt
  · have := List.pairwise_iff_getElem.1 hs j j' a1 a2 hlt
    rw [b1, b2] at this
    exact absurd he this
  · exact heq
  · have := List.pairwise_iff_getElem.1 hs j' j a2 a1 hgt
    rw [b1, b2] at this
    exact absurd he.symm this

/-- What is found at a key, its stamp, the map with its place, and behind a store: the same in every world that holds the map. -/
theorem entry_open (K : WideMaps.KeyLaw P k) (ht : P.underlying t = some (.map k E)) (hz : ∀ u : World, (zeroValue E).run P u = .ok z u) (F : Fit P k R es clock) (hkey : keyOf P k key = some kl) :
    ∃ (v0 : Value) (st : Nat) (es1 : Array MapEntry) (clock1 : Nat) (f : Value → Obj), (∀ W : World, W.heap[b]? = some (.map es clock) → (Instr.mapEntry t (.map (some b)) key).run P W = .ok (.tuple #[v0, goInt st]) (setBlock W b (.map es1 clock1))) ∧
      (∀ (W : World) (v : Value), W.heap[b]? = some (.map es1 clock1) → (Instr.entryStore t (.map (some b)) (goInt st) v).run P W = .ok () (setBlock W b (f v))) ∧
      (∀ (W : World) (v : Value), W.heap[b]? = some (.map es clock) → (Instr.mapUpdate t (.map (some b)) key v).run P W = .ok () (setBlock W b (f v))) ∧
      (∀ W : World, W.heap[b]? = some (.map es clock) → (Instr.lookup t (.map (some b)) key false).run P W = .ok v0 W) ∧
      ((∃ e0 ∈ es.toList, e0.key = key ∧ v0 = e0.val) ∨ ((∀ x ∈ es.toList, x.key ≠ key) ∧ v0 = z)) := by
  obtain ⟨s1, s2, _⟩ := F.stamped
  have hpk : es.toList.Pairwise (fun x y => x.key ≠ y.key) := ((stamped_iff es clock).1 F.stamped).2.2
  by_cases hex : ∃ e0 ∈ es.toList, e0.key = key
  · obtain ⟨e0, hm0, hk0⟩ := hex
    obtain ⟨j, hj⟩ := List.mem_iff_getElem?.1 hm0
    have hf : ∀ W : World, (Instr.findKey k key es.toList).run P W = .ok (some (j, e0.val)) W := fun W => by
      rcases K.find W hkey es.toList F.keys with ⟨_, h2⟩ | ⟨j', e1, h1, h2, h3⟩
      · exact absurd hk0 (h2 e0 hm0)
      · obtain rfl := one_place hpk hj h2 (hk0.trans h3.symm)
        rw [hj] at h2
        cases h2
        exact h1
    have hj' : es[j]? = some e0 := by simpa using hj
    have hsame : es.modify j (fun e => { e with key := key }) = es := by
      apply Array.ext'
      rw [Array.toList_modify, modify_eq_set _ _ _ _ hj]
      have : ({ e0 with key := key } : MapEntry) = e0 := by rw [← hk0]
      rw [this]
      exact set_self _ _ _ hj
    have hidx : es.findIdx? (fun e => ((e.born : Nat) : Int) == ((e0.born : Nat) : Int)) = some j := by
      rw [findIdx_arr]
      exact findIdx_born s2 hj
    refine ⟨e0.val, e0.born, es, clock, fun v => .map (es.modify j (fun e' => { e' with key := key, val := v })) clock, fun W hW => ?_, fun W v hW => ?_, fun W v hW => ?_, fun W hW => ?_, Or.inl ⟨e0, hm0, hk0, rfl⟩⟩
    · simp [Instr.mapEntry, run_underlying ht, MapKept.run_getObj_map hW, K.check W false hkey, hf, hj', hk0, K.stays W hkey, hsame, MapKept.run_setObj_map _ hW, Result.andThen, setBlock]
    · have hmod : es.modify j (fun e => { e with val := v }) = es.modify j (fun e' => { e' with key := key, val := v }) := by
        apply Array.ext'
        rw [Array.toList_modify, Array.toList_modify, modify_eq_set _ _ _ _ hj, modify_eq_set _ _ _ _ hj, hk0]
      simp [Instr.entryStore, MapKept.run_getObj_map hW, asInt, asIntOf, goInt, hidx, hmod, MapKept.run_setObj_map _ hW, Result.andThen, setBlock]
    · simp [Instr.mapUpdate, run_underlying ht, MapKept.run_getObj_map hW, K.check W false hkey, hf, hj', hk0, K.stays W hkey, MapKept.run_setObj_map _ hW, Result.andThen, setBlock]
    · simp [Instr.lookup, run_underlying ht, MapKept.run_getObj_map hW, K.check W _ hkey, hf, Result.andThen]
  · have hno : ∀ x ∈ es.toList, x.key ≠ key := fun x hx e => hex ⟨x, hx, e⟩
    have hf : ∀ W : World, (Instr.findKey k key es.toList).run P W = .ok none W := fun W => by
      rcases K.find W hkey es.toList F.keys with ⟨h1, _⟩ | ⟨j', e1, h1, h2, h3⟩
      · exact h1
      · exact absurd h3 (hno e1 (List.mem_of_getElem? h2))
    refine ⟨z, clock, es.push ⟨key, z, clock⟩, clock + 1, fun v => .map (es.push ⟨key, v, clock⟩) (clock + 1), fun W hW => ?_, fun W v hW => ?_, fun W v hW => ?_, fun W hW => ?_, Or.inr ⟨hno, rfl⟩⟩
    · simp [Instr.mapEntry, run_underlying ht, MapKept.run_getObj_map hW, K.check W false hkey, hf, hz, MapKept.run_setObj_map _ hW, Result.andThen, setBlock]
    · have hidx : (es.push ⟨key, z, clock⟩).findIdx? (fun e => ((e.born : Nat) : Int) == ((clock : Nat) : Int)) = some es.size := by
        rw [findIdx_arr]
        have := findIdx_born (l := (es.push ⟨key, z, clock⟩).toList) (j := es.size) (e0 := ⟨key, z, clock⟩) (by
          simp only [Array.toList_push, List.map_append, List.map_cons, List.map_nil]
          refine List.nodup_append.2 ⟨s2, by simp, fun a ha c hc e1 => ?_⟩
          simp only [List.mem_singleton] at hc
          obtain ⟨x, hx, rfl⟩ := List.mem_map.1 ha
          have := s1 x hx
          omega) (by simp)
        exact this
      have hmod : (es.push ⟨key, z, clock⟩).modify es.size (fun e => { e with val := v }) = es.push ⟨key, v, clock⟩ := by
        apply Array.ext'
        rw [Array.toList_modify, Array.toList_push, Array.toList_push, ← Array.length_toList, modify_last]
      simp [Instr.entryStore, MapKept.run_getObj_map hW, asInt, asIntOf, goInt, hidx, hmod, MapKept.run_setObj_map _ hW, Result.andThen, setBlock]
    · simp [Instr.mapUpdate, run_underlying ht, MapKept.run_getObj_map hW, K.check W false hkey, hf, MapKept.run_setObj_map _ hW, Result.andThen, setBlock]
    · simp [Instr.lookup, run_underlying ht, MapKept.run_getObj_map hW, K.check W _ hkey, hf, hz, Result.andThen]

end

/-- The numbers of a row, as they are read. -/
def itm : DataW Unit → List (DataW Unit)
  | .slice l _ => l
  | _ => []

/-- A map of rows tells, at the dots, these numbers. -/
def MW (D : DataW Unit) (W : Dt → List Int) : Prop := ∀ d, Dw d → itm (D.atKey (kl d) .nil) = lits .i64 (W d)

theorem itm_row {w : World} {base : Nat} {v : Value} {zs : List Int} (h : w.ownsInts base 3 .i64 v zs) : itm (rowDatum .i64 v zs) = lits .i64 zs := by
  rcases h.datum (H := Unit) with ⟨h1, rfl⟩ | h1
  · rw [h1]; rfl
  · rw [h1]; rfl

theorem lits_inj {q : IntKind} {l l' : List Int} (h : lits (H := Unit) q l = lits q l') : l = l' := by
  unfold lits at h
  exact (List.map_inj_right (fun a b hab => by cases hab; rfl)).1 h

theorem MW.put {D : DataW Unit} {W : Dt → List Int} (h : MW D W) (hm : IsMap D) {d : Dt} (hd : Dw d) {w : World} {base : Nat} {v : Value} {zs : List Int} (ho : w.ownsInts base 3 .i64 v zs) : MW (D.put (kl d) (rowDatum .i64 v zs)) (fun e => if e = d then zs else W e) := by
  intro e he
  by_cases hed : e = d
  · subst hed
    rw [atKey_put_same hm (kl_isKey _), itm_row ho]
    simp
  · have hne : kl e ≠ kl d := fun h' => hed (kl_inj he hd h')
    rw [atKey_put_other hne, h e he]
    simp [hed]

theorem MW.nil : MW (.map []) (fun _ => []) := fun _ _ => rfl

/-- No row of the map is a block of which No holds, but for that of one key, which is v0. -/
def GS (w : World) (b : Nat) (K : Option Value) (v0 : Value) (No : Nat → Prop) : Prop := ∀ es clock, w.heap[b]? = some (.map es clock) → ∀ x ∈ es.toList, (some x.key = K → x.val = v0) ∧ (some x.key ≠ K → ∀ g, x.val.ownBlock = some g → ¬ No g)

theorem GS.kept {w w' : World} {b : Nat} {K : Option Value} {v0 : Value} {No : Nat → Prop} (h : GS w b K v0 No) (he : w'.heap[b]? = w.heap[b]?) : GS w' b K v0 No := fun es clock hb => h es clock (he ▸ hb)

/-- More blocks: such as are new. -/
theorem GS.reno {w : World} {base b n : Nat} {D : DataW Unit} {K : Option Value} {v0 : Value} {No No' : Nat → Prop} (h : GS w b K v0 No) (ho : w.ownsGroups Try.prog 24 base 3 .i64 b n D) (hn : ∀ g, No' g → No g ∨ w.heap.size ≤ g) : GS w b K v0 No' := fun es clock hb x hx => ⟨(h es clock hb x hx).1, fun hk g hg hN => by
  rcases hn g hN with h1 | h1
  · exact (h es clock hb x hx).2 hk g hg h1
  · obtain ⟨es', clock', hb', F, _⟩ := ho
    obtain ⟨rfl, rfl⟩ : es' = es ∧ clock' = clock := by rw [hb'] at hb; simpa using hb
    obtain ⟨y, hy⟩ := F.reads x hx
    obtain ⟨z, hz, _⟩ := rd_val hy
    obtain ⟨zs, hoi, _⟩ := rowElem_inv hz
    have := (hoi.1.lt g hg).2
    omega⟩

theorem zeroRow (w : World) : (zeroValue 45).run Try.prog w = .ok (.slice none 0 0) w := Try.zeroValue45 w

theorem setBlock_twice (w : World) (b : Nat) (o o' : Obj) : setBlock (setBlock w b o) b o' = setBlock w b o' := by
  simp [setBlock]

end

section

/-- The number at a place. -/
def nb (zs : List Int) (k : Nat) : Int := zs.getD k 0

/-- Two that are put each at the other's place. -/
def sw (zs : List Int) (i j : Nat) : List Int := (zs.set i (nb zs j)).set j (nb zs i)

theorem sw_length (zs : List Int) (i j : Nat) : (sw zs i j).length = zs.length := by simp [sw]

theorem nb_get {zs : List Int} {k : Nat} (h : k < zs.length) : nb zs k = zs[k] := by simp [nb, h]

theorem nb_set {zs : List Int} {k i : Nat} {x : Int} (h : i < zs.length) : nb (zs.set i x) k = if k = i then x else nb zs k := by
  unfold nb
  simp only [List.getD_eq_getElem?_getD, List.getElem?_set]
  by_cases hk : i = k
  · subst hk; simp [h]
  · have : ¬ k = i := fun e => hk e.symm
    simp [hk, this]

theorem nb_sw {zs : List Int} {i j k : Nat} (hi : i < zs.length) (hj : j < zs.length) : nb (sw zs i j) k = if k = j then nb zs i else if k = i then nb zs j else nb zs k := by
  unfold sw
  rw [nb_set (by simpa using hj), nb_set hi]

theorem sw_perm {zs : List Int} {i j : Nat} (hi : i < zs.length) (hj : j < zs.length) : (sw zs i j).Perm zs := by
  rw [List.perm_iff_count]
  intro a
  unfold sw
  rw [List.count_set (by simpa using hj), List.count_set hi]
  have e1 : nb zs i = zs[i] := nb_get hi
  have e2 : nb zs j = zs[j] := nb_get hj
  have e3 : (zs.set i (nb zs j))[j]'(by simpa using hj) = zs[j] := by
    rw [List.getElem_set]
    by_cases h : i = j
    · subst h; simp [e2]
    · simp [h]
  rw [e3, e1, e2]
  have c1 : (zs[i] == a) = true → 0 < zs.count a := fun h => List.count_pos_iff.2 (by have := eq_of_beq h; rw [← this]; exact List.getElem_mem _)
  by_cases h1 : (zs[i] == a) = true <;> by_cases h2 : (zs[j] == a) = true
  · have := c1 h1; simp [h1, h2]; omega
  · have := c1 h1; simp [h1, h2]; omega
  · simp [h1, h2]
  · simp [h1, h2]

/-- Each one is not below the one above it. -/
def Hp (zs : List Int) : Prop := ∀ k, 0 < k → k < zs.length → nb zs ((k - 1) / 2) ≤ nb zs k

theorem Hp.least {zs : List Int} (h : Hp zs) : ∀ k, k < zs.length → nb zs 0 ≤ nb zs k := by
  intro k
  induction k using Nat.strongRecOn with
  | _ k ih =>
    intro hk
    by_cases h0 : k = 0
    · subst h0; exact Int.le_refl _
    · exact Int.le_trans (ih ((k - 1) / 2) (by omega) (by omega)) (h k (by omega) hk)

/-- On the way up: all but place j, and what is below j is not below what is above it. -/
structure UpI (zs : List Int) (j : Nat) : Prop where
  lt : j < zs.length
  rest : ∀ k, 0 < k → k < zs.length → k ≠ j → nb zs ((k - 1) / 2) ≤ nb zs k
  over : ∀ k, 0 < k → k < zs.length → (k - 1) / 2 = j → 0 < j → nb zs ((j - 1) / 2) ≤ nb zs k

theorem UpI.step {zs : List Int} {j : Nat} (h : UpI zs j) (hj : 0 < j) (hl : nb zs j < nb zs ((j - 1) / 2)) : UpI (sw zs ((j - 1) / 2) j) ((j - 1) / 2) := by
  have hi : (j - 1) / 2 < zs.length := by have := h.lt; omega
  refine ⟨by rw [sw_length]; exact hi, fun k hk hkl hne => ?_, fun k hk hkl he h0 => ?_⟩
  · rw [sw_length] at hkl
    rw [nb_sw hi h.lt, nb_sw hi h.lt]
    by_cases h1 : k = j
    · subst h1
      have e1 : ¬ (k - 1) / 2 = k := by omega
      rw [if_neg e1, if_pos rfl, if_pos rfl]
      omega
    · by_cases h2 : (k - 1) / 2 = j
      · rw [if_pos h2, if_neg h1, if_neg hne]
        exact h.over k hk hkl h2 hj
      · by_cases h3 : (k - 1) / 2 = (j - 1) / 2
        · rw [if_neg h2, if_pos h3, if_neg h1, if_neg hne]
          have := h.rest k hk hkl h1
          rw [h3] at this
          omega
        · rw [if_neg h2, if_neg h3, if_neg h1, if_neg hne]
          exact h.rest k hk hkl h1
  · rw [sw_length] at hkl
    rw [nb_sw hi h.lt, nb_sw hi h.lt]
    have a1 : ¬ ((j - 1) / 2 - 1) / 2 = j := by omega
    have a2 : ¬ ((j - 1) / 2 - 1) / 2 = (j - 1) / 2 := by omega
    have a3 : ¬ k = (j - 1) / 2 := by omega
    have hp := h.rest ((j - 1) / 2) h0 hi (by omega)
    rw [if_neg a1, if_neg a2]
    by_cases h1 : k = j
    · rw [if_pos h1]; exact hp
    · rw [if_neg h1, if_neg a3]
      have := h.rest k hk hkl h1
      rw [he] at this
      omega

theorem UpI.top {zs : List Int} (h : UpI zs 0) : Hp zs := fun k hk hkl => h.rest k hk hkl (by omega)
theorem UpI.done {zs : List Int} {j : Nat} (h : UpI zs j) (hl : nb zs ((j - 1) / 2) ≤ nb zs j) : Hp zs := fun k hk hkl => by
  by_cases hkj : k = j
  · subst hkj; exact hl
  · exact h.rest k hk hkl hkj

theorem nb_append_lt {zs : List Int} {x : Int} {k : Nat} (h : k < zs.length) : nb (zs ++ [x]) k = nb zs k := by
  unfold nb; simp [List.getD_eq_getElem?_getD, List.getElem?_append_left h]

theorem Hp.push {zs : List Int} (h : Hp zs) (x : Int) : UpI (zs ++ [x]) zs.length := by
  refine ⟨by simp, fun k hk hkl hne => ?_, fun k hk hkl he h0 => ?_⟩
  · simp at hkl
    rw [nb_append_lt (by omega), nb_append_lt (by omega)]
    exact h k hk (by omega)
  · simp at hkl; omega

/-- On the way down, among the first n: all but below place i, and what is below i is not below what is above i. -/
structure DnI (zs : List Int) (i n : Nat) : Prop where
  lt : i < zs.length
  le : n ≤ zs.length
  rest : ∀ k, 0 < k → k < n → (k - 1) / 2 ≠ i → nb zs ((k - 1) / 2) ≤ nb zs k
  over : ∀ k, 0 < k → k < n → (k - 1) / 2 = i → 0 < i → nb zs ((i - 1) / 2) ≤ nb zs k

/-- The first n are a heap. -/
def HpN (zs : List Int) (n : Nat) : Prop := ∀ k, 0 < k → k < n → nb zs ((k - 1) / 2) ≤ nb zs k

theorem DnI.leaf {zs : List Int} {i n : Nat} (h : DnI zs i n) (hc : n ≤ 2 * i + 1) : HpN zs n := fun k hk hkn => h.rest k hk hkn (by omega)

/-- The lesser one of those below. -/
def lc (zs : List Int) (i n : Nat) : Nat := if 2 * i + 2 < n ∧ nb zs (2 * i + 2) < nb zs (2 * i + 1) then 2 * i + 2 else 2 * i + 1

theorem lc_lt {zs : List Int} {i n : Nat} (h : 2 * i + 1 < n) : lc zs i n < n ∧ (lc zs i n - 1) / 2 = i ∧ 0 < lc zs i n ∧ i < lc zs i n := by
  unfold lc; split <;> omega

theorem lc_least {zs : List Int} {i n k : Nat} (hk : 0 < k) (hkn : k < n) (he : (k - 1) / 2 = i) : nb zs (lc zs i n) ≤ nb zs k := by
  unfold lc
  split
  · rename_i h
    have : k = 2 * i + 1 ∨ k = 2 * i + 2 := by omega
    rcases this with rfl | rfl
    · omega
    · exact Int.le_refl _
  · rename_i h
    have : k = 2 * i + 1 ∨ k = 2 * i + 2 := by omega
    rcases this with rfl | rfl
    · exact Int.le_refl _
    · have : ¬ nb zs (2 * i + 2) < nb zs (2 * i + 1) := fun hh => h ⟨hkn, hh⟩
      omega

theorem DnI.done {zs : List Int} {i n : Nat} (h : DnI zs i n) (hl : nb zs i ≤ nb zs (lc zs i n)) : HpN zs n := fun k hk hkn => by
  by_cases he : (k - 1) / 2 = i
  · rw [he]; exact Int.le_trans hl (lc_least hk hkn he)
  · exact h.rest k hk hkn he

theorem DnI.step {zs : List Int} {i n : Nat} (h : DnI zs i n) (hc : 2 * i + 1 < n) (hl : nb zs (lc zs i n) < nb zs i) : DnI (sw zs i (lc zs i n)) (lc zs i n) n := by
  obtain ⟨c1, c2, c3, c4⟩ := lc_lt (zs := zs) hc
  have hle := h.le
  have hj : lc zs i n < zs.length := by omega
  have hleast := fun k hk hkn he => lc_least (zs := zs) (i := i) (n := n) (k := k) hk hkn he
  generalize lc zs i n = j at *
  refine ⟨by rw [sw_length]; exact hj, by rw [sw_length]; exact hle, fun k hk hkn hne => ?_, fun k hk hkn he h0 => ?_⟩
  · rw [nb_sw h.lt hj, nb_sw h.lt hj, if_neg hne]
    by_cases h1 : k = j
    · subst h1
      rw [if_pos c2, if_pos rfl]
      omega
    · rw [if_neg h1]
      by_cases h2 : k = i
      · subst h2
        have a1 : ¬ (k - 1) / 2 = k := by omega
        rw [if_neg a1, if_pos rfl]
        exact h.over j c3 c1 c2 hk
      · rw [if_neg h2]
        by_cases h3 : (k - 1) / 2 = i
        · rw [if_pos h3]; exact hleast k hk hkn h3
        · rw [if_neg h3]; exact h.rest k hk hkn h3
  · rw [nb_sw h.lt hj, nb_sw h.lt hj]
    have a1 : ¬ (j - 1) / 2 = j := by omega
    have a2 : ¬ k = j := by omega
    have a3 : ¬ k = i := by omega
    rw [if_neg a1, if_pos c2, if_neg a2, if_neg a3]
    have := h.rest k hk hkn (by omega)
    rw [he] at this
    exact this

/-- What lies ahead of a Pop's way down: the first one and the last one have changed places. -/
theorem Hp.pop {zs : List Int} (h : Hp zs) (h0 : zs ≠ []) : DnI (sw zs 0 (zs.length - 1)) 0 (zs.length - 1) ∧ nb (sw zs 0 (zs.length - 1)) (zs.length - 1) = nb zs 0 := by
  have hl : 0 < zs.length := List.length_pos_iff.2 h0
  refine ⟨⟨by rw [sw_length]; exact hl, by rw [sw_length]; omega, fun k hk hkn hne => ?_, fun k hk hkn he hz => by omega⟩, ?_⟩
  · rw [nb_sw hl (by omega), nb_sw hl (by omega), if_neg (by omega), if_neg hne, if_neg (by omega), if_neg (by omega)]
    exact h k hk (by omega)
  · rw [nb_sw hl (by omega), if_pos rfl]

theorem HpN.take {zs : List Int} {n : Nat} (h : HpN zs n) (hn : n ≤ zs.length) : Hp (zs.take n) := by
  intro k hk hkl
  have hkn : k < n := by rw [List.length_take] at hkl; omega
  have e : ∀ j, j < n → nb (zs.take n) j = nb zs j := fun j hj => by unfold nb; simp [List.getD_eq_getElem?_getD, hj]
  rw [e k hkn, e _ (by omega)]
  exact h k hk hkn

/-- The way down among the first n leaves what lies at n and behind it. -/
theorem sw_far {zs : List Int} {i j k : Nat} (hi : i < zs.length) (hj : j < zs.length) (h1 : k ≠ i) (h2 : k ≠ j) : nb (sw zs i j) k = nb zs k := by
  rw [nb_sw hi hj, if_neg h2, if_neg h1]

/-- What Pop tells: the least one; what is left. -/
theorem popped {zs ys : List Int} (h0 : zs ≠ []) (hp : ys.Perm zs) (hN : HpN ys (zs.length - 1)) (hm : nb ys (zs.length - 1) = nb zs 0) (hz : Hp zs) :
    Hp (ys.take (zs.length - 1)) ∧ zs.Perm (nb zs 0 :: ys.take (zs.length - 1)) ∧ ∀ z ∈ zs, nb zs 0 ≤ z := by
  have hl : 0 < zs.length := List.length_pos_iff.2 h0
  have hlen := hp.length_eq
  refine ⟨hN.take (by omega), ?_, fun z hz' => ?_⟩
  · have e : ys = ys.take (zs.length - 1) ++ [nb zs 0] := by
      have h1 : ys.take (zs.length - 1 + 1) = ys.take (zs.length - 1) ++ [ys[zs.length - 1]'(by omega)] := List.take_succ_eq_append_getElem (by omega)
      rw [List.take_of_length_le (by omega)] at h1
      rw [← nb_get (by omega : zs.length - 1 < ys.length), hm] at h1
      exact h1
    refine hp.symm.trans ?_
    conv => lhs; rw [e]
    exact List.perm_append_comm
  · obtain ⟨k, hk, rfl⟩ := List.getElem_of_mem hz'
    rw [← nb_get hk]
    exact hz.least k hk

end

section
open Go.RowKit
open Go.Sort (grow)

/-- The least actor of both. -/
def fa : List Dt → List Dt → Int
  | [], [] => 0
  | [], e :: _ => e.1
  | d :: _, [] => d.1
  | d :: _, e :: _ => if d.1 < e.1 then d.1 else e.1

/-- What the first dot has of an actor, and what lies behind it. -/
def hdv : List Dt → Int → Int
  | [], _ => 0
  | d :: _, y => if d.1 = y then d.2 else 0
def tlv : List Dt → Int → List Dt
  | [], _ => []
  | d :: r, y => if d.1 = y then r else d :: r

theorem fa_low {A B : List Dt} (hA : VM A) (hB : VM B) : (∀ e ∈ A, fa A B ≤ e.1) ∧ (∀ e ∈ B, fa A B ≤ e.1) := by
  cases A with
  | nil =>
    refine ⟨fun e he => by simp at he, fun e he => ?_⟩
    cases B with
    | nil => simp at he
    | cons d r =>
      rcases List.mem_cons.1 he with rfl | he
      · exact Int.le_refl _
      · have := hB.ahead e he
        simp only [fa]
        omega
  | cons a r =>
    cases B with
    | nil =>
      refine ⟨fun e he => ?_, fun e he => by simp at he⟩
      rcases List.mem_cons.1 he with rfl | he
      · exact Int.le_refl _
      · have := hA.ahead e he
        simp only [fa]
        omega
    | cons b s =>
      have h1 := hA.ahead
      have h2 := hB.ahead
      refine ⟨fun e he => ?_, fun e he => ?_⟩
      · simp only [fa]
        rcases List.mem_cons.1 he with rfl | he
        · split <;> omega
        · have := h1 e he
          split <;> omega
      · simp only [fa]
        rcases List.mem_cons.1 he with rfl | he
        · split <;> omega
        · have := h2 e he
          split <;> omega

theorem fa_there {A B : List Dt} (h : 0 < A.length + B.length) : (∃ e ∈ A, e.1 = fa A B) ∨ (∃ e ∈ B, e.1 = fa A B) := by
  cases A with
  | nil =>
    cases B with
    | nil => simp at h
    | cons b s => exact .inr ⟨b, by simp, rfl⟩
  | cons a r =>
    cases B with
    | nil => exact .inl ⟨a, by simp, rfl⟩
    | cons b s =>
      by_cases hab : a.1 < b.1
      · exact .inl ⟨a, by simp, by simp [fa, hab]⟩
      · exact .inr ⟨b, by simp, by simp [fa, hab]⟩

structure Hd (L : List Dt) (y : Int) : Prop where
  val : hdv L y = gt L y
  rest : ∀ a, gt (tlv L y) a = if a = y then 0 else gt L a
  vm : VM (tlv L y)
  far : ∀ e ∈ tlv L y, y < e.1 ∧ e ∈ L
  len : (tlv L y).length ≤ L.length
  less : (∃ e ∈ L, e.1 = y) → (tlv L y).length < L.length

theorem hd_spec {L : List Dt} (h : VM L) {y : Int} (hy : ∀ e ∈ L, y ≤ e.1) : Hd L y := by
  cases L with
  | nil => exact ⟨rfl, fun a => by simp [tlv, gt], vm_nil, fun e he => by simp [tlv] at he, by simp [tlv], fun ⟨e, he, _⟩ => by simp at he⟩
  | cons d r =>
    have h1 := h.ahead
    by_cases hd : d.1 = y
    · have e : tlv (d :: r) y = r := by simp [tlv, hd]
      refine ⟨by simp [hdv, gt, hd], fun a => ?_, by rw [e]; exact h.tail, fun q hq => ?_, by rw [e]; simp, fun _ => by rw [e]; simp⟩
      · rw [e]
        by_cases ha : a = y
        · rw [if_pos ha]
          exact gt_none fun q hq => by have := h1 q hq; omega
        · rw [if_neg ha]
          simp only [gt]
          rw [if_neg (by omega)]
      · rw [e] at hq
        exact ⟨by have := h1 q hq; omega, List.mem_cons_of_mem _ hq⟩
    · have e : tlv (d :: r) y = d :: r := by simp [tlv, hd]
      have h0 := hy d (by simp)
      have hall : ∀ q ∈ d :: r, y < q.1 := fun q hq => by
        rcases List.mem_cons.1 hq with rfl | hq
        · omega
        · have := h1 q hq; omega
      have hz : gt (d :: r) y = 0 := gt_none fun q hq => by have := hall q hq; omega
      refine ⟨by rw [hz]; simp [hdv, hd], fun a => ?_, by rw [e]; exact h, fun q hq => ?_, by rw [e]; simp, fun ⟨q, hq, hq1⟩ => by have := hall q hq; omega⟩
      · rw [e]
        by_cases ha : a = y
        · rw [if_pos ha, ha, hz]
        · rw [if_neg ha]
      · rw [e] at hq
        exact ⟨hall q hq, hq⟩

/-- Part of the way through. -/
structure MI (pk : Int → Int → Int) (A B R A1 B1 : List Dt) : Prop where
  r : VM R
  a : VM A1
  b : VM B1
  ra : ∀ d ∈ R, ∀ e ∈ A1, d.1 < e.1
  rb : ∀ d ∈ R, ∀ e ∈ B1, d.1 < e.1
  eq : ∀ y, pk (gt A y) (gt B y) = gt R y + pk (gt A1 y) (gt B1 y)
  len : R.length + A1.length + B1.length ≤ A.length + B.length

theorem MI.start {pk : Int → Int → Int} {A B : List Dt} (hA : VM A) (hB : VM B) : MI pk A B [] A B :=
  ⟨vm_nil, hA, hB, fun d hd => by simp at hd, fun d hd => by simp at hd, fun y => by simp [gt], by simp⟩

theorem gt_snoc {R : List Dt} {y z : Int} (h : ∀ d ∈ R, d.1 < y) (a : Int) : gt (R ++ [(y, z)]) a = if a = y then z else gt R a := by
  induction R with
  | nil =>
    by_cases ha : a = y
    · simp [gt, ha]
    · simp [gt, ha, Ne.symm ha]
  | cons d r ih =>
    have hd := h d (by simp)
    have ih' := ih fun e he => h e (List.mem_cons_of_mem _ he)
    simp only [List.cons_append, gt]
    rw [ih']
    by_cases ha : a = y
    · rw [if_neg (by omega), if_pos ha, if_pos ha]
    · rw [if_neg ha, if_neg ha]

theorem MI.step {pk : Int → Int → Int} (hp : Pick pk) {A B R A1 B1 : List Dt} (h : MI pk A B R A1 B1) (hne : 0 < A1.length + B1.length) :
    (0 < pk (hdv A1 (fa A1 B1)) (hdv B1 (fa A1 B1)) → MI pk A B (R ++ [(fa A1 B1, pk (hdv A1 (fa A1 B1)) (hdv B1 (fa A1 B1)))]) (tlv A1 (fa A1 B1)) (tlv B1 (fa A1 B1))) ∧
    (¬ 0 < pk (hdv A1 (fa A1 B1)) (hdv B1 (fa A1 B1)) → MI pk A B R (tlv A1 (fa A1 B1)) (tlv B1 (fa A1 B1))) ∧
    (tlv A1 (fa A1 B1)).length + (tlv B1 (fa A1 B1)).length < A1.length + B1.length := by
  obtain ⟨hlA, hlB⟩ := fa_low h.a h.b
  have hth := fa_there hne
  have sA := hd_spec h.a hlA
  have sB := hd_spec h.b hlB
  generalize hy : fa A1 B1 = y at *
  clear hy
  have hRy : ∀ d ∈ R, d.1 < y := fun d hd => by
    rcases hth with ⟨e, he, rfl⟩ | ⟨e, he, rfl⟩
    · exact h.ra d hd e he
    · exact h.rb d hd e he
  have hR0 : gt R y = 0 := gt_none fun d hd => by have := hRy d hd; omega
  have hlt : (tlv A1 y).length + (tlv B1 y).length < A1.length + B1.length := by
    have l1 := sA.len
    have l2 := sB.len
    rcases hth with hq | hq
    · have := sA.less hq; omega
    · have := sB.less hq; omega
  have eA := sA.val
  have eB := sB.val
  have hlen := h.len
  rw [eA, eB]
  have hnn : 0 ≤ pk (gt A1 y) (gt B1 y) := by
    have := h.a.gt_bounds y
    have := h.b.gt_bounds y
    rcases hp.one (gt A1 y) (gt B1 y) with e | e <;> omega
  refine ⟨fun hz => ?_, fun hz => ?_, hlt⟩
  · have hmay : mayd (y, pk (gt A1 y) (gt B1 y)) = true := by
      rcases hp.one (gt A1 y) (gt B1 y) with e | e
      · rw [e]; exact (h.a.gt_pos (by omega)).1
      · rw [e]; exact (h.b.gt_pos (by omega)).1
    refine ⟨(vmb_iff _).1 ?_, sA.vm, sB.vm, ?_, ?_, fun a => ?_, ?_⟩
    · rw [vmb_snoc ((vmb_iff R).2 h.r), hmay, Bool.true_and]
      exact List.all_eq_true.2 fun e he => decide_eq_true (hRy e he)
    · intro d hd e he
      rcases List.mem_append.1 hd with hd | hd
      · exact h.ra d hd e (sA.far e he).2
      · simp at hd
        rw [hd]
        exact (sA.far e he).1
    · intro d hd e he
      rcases List.mem_append.1 hd with hd | hd
      · exact h.rb d hd e (sB.far e he).2
      · simp at hd
        rw [hd]
        exact (sB.far e he).1
    · rw [gt_snoc hRy, sA.rest, sB.rest, h.eq a]
      by_cases ha : a = y
      · rw [if_pos ha, if_pos ha, if_pos ha, ha, hR0, hp.zero]
        omega
      · rw [if_neg ha, if_neg ha, if_neg ha]
    · rw [List.length_append, List.length_singleton]
      omega
  · refine ⟨h.r, sA.vm, sB.vm, fun d hd e he => h.ra d hd e (sA.far e he).2, fun d hd e he => h.rb d hd e (sB.far e he).2, fun a => ?_, by omega⟩
    rw [sA.rest, sB.rest, h.eq a]
    by_cases ha : a = y
    · rw [if_pos ha, if_pos ha, ha, hR0, hp.zero]
      omega
    · rw [if_neg ha, if_neg ha]

theorem MI.done {pk : Int → Int → Int} (hp : Pick pk) {A B R : List Dt} (hA : VM A) (hB : VM B) (h : MI pk A B R [] []) : R = vj pk A B :=
  eq_vj hp hA hB h.r fun a => by have := h.eq a; simp [gt, hp.zero] at this; exact this.symm

end
end Go.Proofs.Ytbpepmajpojacaa
