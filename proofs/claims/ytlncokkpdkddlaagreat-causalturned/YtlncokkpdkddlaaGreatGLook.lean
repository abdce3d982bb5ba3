/- Looking into a map of numbers by dots: the same in every world that holds it. No function of the program. -/
import Derived.Test.YtlncokkpdkddlaaGreatHMath
import Derived.Test.YtlncokkpdkddlaaGreatHPush
import Derived.Test.YtlncokkpdkddlaaGreatOCount
import Derived.Test.YtlncokkpdkddlaaGreatMRow
namespace Go.Proofs.YtlncokkpdkddlaaGreat
section
open Go.RowKit Go.Maps Go.WideElems Go.MapKept
open Go.ChangeMaps (setBlock heap_setBlock_same heap_setBlock_other)

theorem own_same {w w' : World} {b e z : Nat} {v : Value} {n : Nat} {xs : List Value} (h : w.ownsRow b e z v n xs) (hs : ∀ g, v.ownBlock = some g → w'.heap[g]? = w.heap[g]?) : w'.ownsRow b e z v n xs := by
  refine ⟨h.1, ?_⟩
  rcases h.2 with h2 | ⟨g, cap, cur, rfl, h3, h4, h5⟩
  · exact .inl h2
  · exact .inr ⟨g, cap, cur, rfl, h3, by rw [hs g rfl]; exact h4, h5⟩

theorem oi_same {w w' : World} {b : Nat} {v : Value} {zs : List Int} (h : OI w b v zs) (hs : ∀ g, v.ownBlock = some g → w'.heap[g]? = w.heap[g]?) : OI w' b v zs := ⟨own_same h.1 hs, h.2⟩

theorem dm_same {w w' : World} {b n : Nat} {g : Dt → Option Int} (h : DM w b n g) (hs : w'.heap[b]? = w.heap[b]?) : DM w' b n g := by
  obtain ⟨D, ⟨es, clock, h1, h2⟩, hT⟩ := h
  exact ⟨D, ⟨es, clock, by rw [hs]; exact h1, h2⟩, hT⟩

theorem groups_same {w w' : World} {base b n : Nat} {D : DataW Unit} (h : w.ownsGroups Tryz.prog 32 base 3 .i64 b n D) (hb' : w'.heap[b]? = w.heap[b]?) (hrow : ∀ es clock, w.heap[b]? = some (.map es clock) → ∀ x ∈ es.toList, ∀ g, x.val.ownBlock = some g → w'.heap[g]? = w.heap[g]?) : w'.ownsGroups Tryz.prog 32 base 3 .i64 b n D := by
  obtain ⟨es, clock, hb, F, hs, rfl, hbb, hlen, hap⟩ := h
  have hst : ∀ x ∈ es.toList, ∀ z, rowElem (H := Unit) w base 3 .i64 x.val = some z → rowElem w' base 3 .i64 x.val = some z := fun x hx z hz => by
    obtain ⟨zs, ho, rfl⟩ := rowElem_inv hz
    exact rowElem_mk (oi_same ho (hrow es clock hb x hx))
  obtain ⟨F1, hmap, _⟩ := F.stay hst
  refine ⟨es, clock, hb'.trans hb, F1, hs, by rw [hmap], hbb, fun x hx zs ho => ?_, hap⟩
  obtain ⟨y, hy⟩ := F.reads x hx
  obtain ⟨z, hz, _⟩ := rd_val hy
  obtain ⟨zs0, ho0, _⟩ := rowElem_inv hz
  rw [ho.unique (oi_same ho0 (hrow es clock hb x hx))]
  exact hlen x hx zs0 ho0

theorem groups_rows {w : World} {base b n : Nat} {D : DataW Unit} (h : w.ownsGroups Tryz.prog 32 base 3 .i64 b n D) : ∀ es clock, w.heap[b]? = some (.map es clock) → ∀ x ∈ es.toList, ∀ g, x.val.ownBlock = some g → base ≤ g ∧ g < w.heap.size := fun es clock hb x hx g hg => by
  obtain ⟨es', clock', hb', F, _⟩ := h
  obtain ⟨rfl, rfl⟩ : es' = es ∧ clock' = clock := by rw [hb'] at hb; simpa using hb
  obtain ⟨y, hy⟩ := F.reads x hx
  obtain ⟨z, hz, _⟩ := rd_val hy
  obtain ⟨zs, hoi, _⟩ := rowElem_inv hz
  exact hoi.1.lt g hg

/-- How far each was looked at; which wait for what; which are ready, in some order. -/
structure Sq where
  nx : List Nat
  W : Dt → List Int
  Z : List Int

/-- One is looked at. -/
def Sq.one (R : List (List Dt)) (th : Dt → Bool) (s : Sq) (p : Nat) : Sq :=
  match (R.getD p [])[s.nx.getD p 0 + (((R.getD p []).drop (s.nx.getD p 0)).takeWhile th).length]? with
  | some d => ⟨s.nx.set p (s.nx.getD p 0 + (((R.getD p []).drop (s.nx.getD p 0)).takeWhile th).length), fun e => if e = d then s.W d ++ [(p : Int)] else s.W e, s.Z⟩
  | none => ⟨s.nx.set p (s.nx.getD p 0 + (((R.getD p []).drop (s.nx.getD p 0)).takeWhile th).length), s.W, s.Z ++ [(p : Int)]⟩

/-- The numbers how far each was looked at, as cells. -/
def nxc (l : List Nat) : Array Value := (l.map (fun (x : Nat) => Value.int .i64 (x : Int))).toArray

/-- The taking in, in memory: the row; which are there; how far; what waits; what is ready (the slice v, the numbers zs). The blocks of which No holds are none of its own; the row of one key, v0, isn't to be touched. -/
structure TK (w1 : World) (ra : Option Addr) (rc : Nat) (R : List Mo) (w : World) (th : Dt → Bool) (s : Sq) (v : Value) (zs : List Int) (kt kw : Nat) (K : Option Value) (v0 : Value) (No : Nat → Prop) : Prop where
  below : RowKit.Below w1.heap.size w1 w
  size : w1.heap.size + 4 ≤ w.heap.size
  tk : w.heap[w1.heap.size + 2]? = some (.cells #[.slice ra R.length rc, .map (some w1.heap.size), .slice (some ⟨w1.heap.size + 3, 0, none⟩) R.length R.length, .map (some (w1.heap.size + 1)), v] 50)
  there : ∃ g, DM w w1.heap.size kt g ∧ ∀ d, (g d).isSome = th d
  next : w.heap[w1.heap.size + 3]? = some (.cells (nxc s.nx) 3)
  nlen : s.nx.length = R.length
  wait : ∃ D, w.ownsGroups Tryz.prog 32 (w1.heap.size + 4) 3 .i64 (w1.heap.size + 1) kw D ∧ MW D s.W
  gs : GS w (w1.heap.size + 1) K v0 (fun i => No i ∨ v.ownBlock = some i)
  rdy : OI w (w1.heap.size + 4) v zs
  hp : Hp zs
  perm : zs.Perm s.Z
  rno : ∀ i, v.ownBlock = some i → ¬ No i
  nob : ∀ i, No i → w1.heap.size + 4 ≤ i
  key : ∀ g, v0.ownBlock = some g → No g

section
variable {w1 : World} {ra : Option Addr} {rc : Nat} {R : List Mo} {w : World} {th : Dt → Bool} {s : Sq} {v : Value} {zs : List Int} {kt kw : Nat} {K : Option Value} {v0 : Value} {No : Nat → Prop}

/-- The rows of what waits are none of No, nor what is ready. -/
theorem TK.rows (h : TK w1 ra rc R w th s v zs kt kw K v0 No) : ∀ es clock, w.heap[w1.heap.size + 1]? = some (.map es clock) → ∀ x ∈ es.toList, ∀ g, x.val.ownBlock = some g → w1.heap.size + 4 ≤ g ∧ g < w.heap.size := by
  obtain ⟨D, hD, _⟩ := h.wait
  exact groups_rows hD

/-- New blocks alone. -/
theorem TK.far {w' : World} (h : TK w1 ra rc R w th s v zs kt kw K v0 No) (hf : Far w w') : TK w1 ra rc R w' th s v zs kt kw K v0 No := by
  have hb := hf.below
  have hs := h.size
  have hsz := hb.size
  have hbl : ∀ i, i < w.heap.size → w'.heap[i]? = w.heap[i]? := fun i hi => hb.block i hi
  obtain ⟨g, hg, hg2⟩ := h.there
  obtain ⟨D, hD, hW⟩ := h.wait
  exact ⟨h.below.trans (hb.mono (by omega)), by omega, by rw [hbl _ (by omega)]; exact h.tk, ⟨g, dm_same hg (hbl _ (by omega)), hg2⟩, by rw [hbl _ (by omega)]; exact h.next, h.nlen,
    ⟨D, groups_same hD (hbl _ (by omega)) (fun es clock hh x hx g hg => hbl _ (h.rows es clock hh x hx g hg).2), hW⟩, h.gs.kept (hbl _ (by omega)), oi_same h.rdy (fun g hg => hbl _ (h.rdy.1.lt g hg).2), h.hp, h.perm, h.rno, h.nob, h.key⟩

/-- How far one was looked at. -/
theorem TK.step (h : TK w1 ra rc R w th s v zs kt kw K v0 No) (p x : Nat) : TK w1 ra rc R (w.setCell ⟨w1.heap.size + 3, p, none⟩ (.int .i64 (x : Int))) th ⟨s.nx.set p x, s.W, s.Z⟩ v zs kt kw K v0 No := by
  have hs := h.size
  have hg := grownBy_setCell w (w1.heap.size + 3) p (.int .i64 (x : Int))
  have hbl : ∀ i, i ≠ w1.heap.size + 3 → (w.setCell ⟨w1.heap.size + 3, p, none⟩ (.int .i64 (x : Int))).heap[i]? = w.heap[i]? := fun i hi => by
    have : w1.heap.size + 3 ≠ i := fun e => hi e.symm
    simp [World.setCell, Array.getElem?_modify, this]
  have hsz : (w.setCell ⟨w1.heap.size + 3, p, none⟩ (.int .i64 (x : Int))).heap.size = w.heap.size := by simp [World.setCell]
  obtain ⟨g, hg1, hg2⟩ := h.there
  obtain ⟨D, hD, hW⟩ := h.wait
  refine ⟨h.below.grown hg (by omega) (fun j hj => by cases hj; omega), by omega, by rw [hbl _ (by omega)]; exact h.tk, ⟨g, dm_same hg1 (hbl _ (by omega)), hg2⟩, ?_, by simpa using h.nlen,
    ⟨D, groups_same hD (hbl _ (by omega)) (fun es clock hh y hy g hg => hbl _ (by have := (h.rows es clock hh y hy g hg).1; omega)), hW⟩, h.gs.kept (hbl _ (by omega)), oi_same h.rdy (fun g hg => hbl _ (by have := (h.rdy.1.lt g hg).1; omega)), h.hp, h.perm, h.rno, h.nob, h.key⟩
  simp [World.setCell, Array.getElem?_modify, h.next, nxc, List.map_set]

/-- One more is ready. -/
theorem TK.push {w' : World} {v' : Value} {ys : List Int} {x : Int} (h : TK w1 ra rc R w th s v zs kt kw K v0 No) (hO : OI w' (w1.heap.size + 4) v' ys) (hp : ys.Perm (zs ++ [x])) (hH : Hp ys) (ht : Two w w' (w1.heap.size + 2) 4 v' v.ownBlock) (hv : v'.ownBlock = v.ownBlock ∨ ∃ g, v'.ownBlock = some g ∧ w.heap.size ≤ g) (hn : ∀ i, No i → i < w.heap.size) :
    TK w1 ra rc R w' th ⟨s.nx, s.W, s.Z ++ [x]⟩ v' ys kt kw K v0 No ∧ ∀ i, No i → i < w.heap.size → w'.heap[i]? = w.heap[i]? := by
  have hs := h.size
  have hsz := ht.size
  have hvr : ∀ g, v.ownBlock = some g → w1.heap.size + 4 ≤ g := fun g hg => (h.rdy.1.lt g hg).1
  have hbl : ∀ i, i < w.heap.size → i ≠ w1.heap.size + 2 → v.ownBlock ≠ some i → w'.heap[i]? = w.heap[i]? := fun i hi h1 h2 => ht.block i hi h1 (fun e => h2 e.symm)
  have hlow : ∀ i, i < w1.heap.size + 4 → i ≠ w1.heap.size + 2 → w'.heap[i]? = w.heap[i]? := fun i hi h1 => hbl i (by omega) h1 (fun e => by have := hvr i e; omega)
  obtain ⟨g, hg1, hg2⟩ := h.there
  obtain ⟨D, hD, hW⟩ := h.wait
  have hrow : ∀ es clock, w.heap[w1.heap.size + 1]? = some (.map es clock) → ∀ y ∈ es.toList, ∀ g, y.val.ownBlock = some g → v.ownBlock ≠ some g := fun es clock hh y hy g hg e => by
    by_cases hk : some y.key = K
    · have := (h.gs es clock hh y hy).1 hk
      exact h.rno g e (h.key g (by rw [← this]; exact hg))
    · exact (h.gs es clock hh y hy).2 hk g hg (.inr e)
  refine ⟨⟨?_, by omega, ?_, ⟨g, dm_same hg1 (hlow _ (by omega) (by omega)), hg2⟩, by rw [hlow _ (by omega) (by omega)]; exact h.next, h.nlen, ⟨D, groups_same hD (hlow _ (by omega) (by omega)) (fun es clock hh y hy g hg => ?_), hW⟩, ?_, hO, hH, hp.trans (h.perm.append_right [x]), fun i hi hN => ?_, h.nob, h.key⟩, fun i hi hlt => ?_⟩
  · refine h.below.trans ⟨ht.os, ht.tape, ht.output, hsz, fun i hi => hlow i (by omega) (by omega)⟩
  · rw [ht.here]
    simp [World.setCell, Array.getElem?_modify, h.tk]
  · have hr := h.rows es clock hh y hy g hg
    exact hbl g hr.2 (by omega) (hrow es clock hh y hy g hg)
  · intro es clock hh y hy
    rw [hlow _ (by omega) (by omega)] at hh
    refine ⟨(h.gs es clock hh y hy).1, fun hk g hg hN => ?_⟩
    rcases hN with hN | hN
    · exact (h.gs es clock hh y hy).2 hk g hg (.inl hN)
    · have hr := h.rows es clock hh y hy g hg
      rcases hv with hv | ⟨g', hv, hv2⟩
      · exact hrow es clock hh y hy g hg (by rw [← hv]; exact hN)
      · rw [hv] at hN
        have : g' = g := by simpa using hN
        omega
  · rcases hv with hv | ⟨g', hv, hv2⟩
    · exact h.rno i (by rw [← hv]; exact hi) hN
    · rw [hv] at hi
      have : g' = i := by simpa using hi
      have := hn i hN
      omega
  · exact hbl i hlt (by have := h.nob i hi; omega) (fun e => h.rno i e hi)

/-- One more waits. -/
theorem TK.more {D : DataW Unit} {d : Dt} {u : Value} {zu : List Int} {st : Nat} {es : Array MapEntry} {clock : Nat} {es1 : Array MapEntry} {clock1 : Nat} {f : Value → Obj} {W : World} {v' : Value} {x : Int} (h : TK w1 ra rc R w th s v zs kt kw K v0 No) (hM : MW D s.W) (hm : IsMap D) (way : Way w (w1.heap.size + 4) (w1.heap.size + 1) kw D d u zu st es clock es1 clock1 f) (hd : Dw d) (hK : some (dv d) ≠ K)
    (e1 : W.os = w.os) (e2 : W.tape = w.tape) (e3 : W.output = w.output) (e4 : w.heap.size ≤ W.heap.size) (e5 : ∀ i, i < w.heap.size → i ≠ w1.heap.size + 1 → some i ≠ u.ownBlock → W.heap[i]? = w.heap[i]?) (e6 : W.heap[w1.heap.size + 1]? = some (.map es1 clock1))
    (hO : OI W (w1.heap.size + 4) v' (zu ++ [x])) (hloc : v'.ownBlock = u.ownBlock ∨ ∃ g, v'.ownBlock = some g ∧ w.heap.size ≤ g) (hn : ∀ i, No i → i < w.heap.size) :
    TK w1 ra rc R (setBlock W (w1.heap.size + 1) (f v')) th ⟨s.nx, fun e => if e = d then s.W d ++ [x] else s.W e, s.Z⟩ v zs kt (kw + 1) K v0 No ∧ ∀ i, No i → i < w.heap.size → (setBlock W (w1.heap.size + 1) (f v')).heap[i]? = w.heap[i]? := by
  have hs := h.size
  obtain ⟨gs1, gs2⟩ := way.gs h.gs hK
  have hur : ∀ g, u.ownBlock = some g → w1.heap.size + 4 ≤ g := fun g hg => (way.row.1.lt g hg).1
  have hbl : ∀ i, i < w.heap.size → i ≠ w1.heap.size + 1 → u.ownBlock ≠ some i → (setBlock W (w1.heap.size + 1) (f v')).heap[i]? = w.heap[i]? := fun i hi h1 h2 => by
    rw [heap_setBlock_other e6 _ h1]
    exact e5 i hi h1 (fun e => h2 e.symm)
  have hlow : ∀ i, i < w1.heap.size + 4 → i ≠ w1.heap.size + 1 → (setBlock W (w1.heap.size + 1) (f v')).heap[i]? = w.heap[i]? := fun i hi h1 => hbl i (by omega) h1 (fun e => by have := hur i e; omega)
  obtain ⟨g, hg1, hg2⟩ := h.there
  have hsz : (setBlock W (w1.heap.size + 1) (f v')).heap.size = W.heap.size := by simp [setBlock]
  have hzu : zu = s.W d := by
    have := hM d hd
    rw [way.datum, itm_row way.row] at this
    exact lits_inj this
  refine ⟨⟨?_, by omega, by rw [hlow _ (by omega) (by omega)]; exact h.tk, ⟨g, dm_same hg1 (hlow _ (by omega) (by omega)), hg2⟩, by rw [hlow _ (by omega) (by omega)]; exact h.next, h.nlen, ⟨_, way.back W v' (zu ++ [x]) e1 e2 e3 e4 e5 e6 hO (by have := way.len; simp; omega) hloc, ?_⟩, gs2 W v' e6 (fun g hg hN => ?_), oi_same h.rdy (fun g hg => hbl g (h.rdy.1.lt g hg).2 (by have := (h.rdy.1.lt g hg).1; omega) (fun e => gs1 g e (.inr hg))), h.hp, h.perm, h.rno, h.nob, h.key⟩, fun i hi hlt => hbl i hlt (by have := h.nob i hi; omega) (fun e => gs1 i e (.inl hi))⟩
  · refine h.below.trans ⟨e1, e2, e3, by omega, fun i hi => hlow i (by omega) (by omega)⟩
  · have := hM.put hm hd hO
    rw [hzu] at this
    rw [hzu]
    exact this
  · rcases hloc with hl | ⟨g', hl, hl2⟩
    · exact gs1 g (by rw [← hl]; exact hg) hN
    · rw [hl] at hg
      have hgg : g' = g := by simpa using hg
      rcases hN with hN | hN
      · have := hn g hN; omega
      · have := (h.rdy.1.lt g hN).2; omega

end
end

section

theorem takeWhile_len {th : Dt → Bool} : ∀ (L : List Dt) (q : Nat) (hq : q < L.length), (∀ d ∈ L.take q, th d = true) → th L[q] = false → (L.takeWhile th).length = q
  | [], q, hq, _, _ => by simp at hq
  | x :: r, 0, _, _, h2 => by simp at h2; simp [List.takeWhile, h2]
  | x :: r, q + 1, hq, h1, h2 => by
    have hx : th x = true := h1 x (by simp)
    have := takeWhile_len r q (by simpa using hq) (fun d hd => h1 d (by simp [hd])) (by simpa using h2)
    simp [List.takeWhile, hx, this]

theorem takeWhile_full {th : Dt → Bool} : ∀ (L : List Dt), (∀ d ∈ L, th d = true) → (L.takeWhile th).length = L.length
  | [], _ => rfl
  | x :: r, h => by
    have hx : th x = true := h x (by simp)
    have := takeWhile_full r (fun d hd => h d (by simp [hd]))
    simp [List.takeWhile, hx, this]

theorem one_wait {R : List (List Dt)} {th : Dt → Bool} {s : Sq} {p q : Nat} {V : List Dt} {i : Nat} (hV : R.getD p [] = V) (hi : s.nx.getD p 0 = i) (hq : q < (V.drop i).length) (h1 : ∀ d ∈ (V.drop i).take q, th d = true) (h2 : th (V.drop i)[q] = false) :
    Sq.one R th s p = ⟨s.nx.set p (i + q), fun e => if e = (V.drop i)[q] then s.W (V.drop i)[q] ++ [(p : Int)] else s.W e, s.Z⟩ := by
  have ht := takeWhile_len _ q hq h1 h2
  have hg : V[i + q]? = some ((V.drop i)[q]) := by
    rw [List.getElem_drop, List.getElem?_eq_getElem]
  unfold Sq.one
  rw [hV, hi, ht, hg]

theorem one_ready {R : List (List Dt)} {th : Dt → Bool} {s : Sq} {p : Nat} {V : List Dt} {i : Nat} (hV : R.getD p [] = V) (hi : s.nx.getD p 0 = i) (hle : i ≤ V.length) (h1 : ∀ d ∈ V.drop i, th d = true) :
    Sq.one R th s p = ⟨s.nx.set p V.length, s.W, s.Z ++ [(p : Int)]⟩ := by
  have ht := takeWhile_full _ h1
  rw [List.length_drop] at ht
  unfold Sq.one
  rw [hV, hi, ht, show i + (V.length - i) = V.length by omega, List.getElem?_eq_none (Nat.le_refl _)]

/-- None was looked at beyond its end. -/
def Sq.Ok (R : List (List Dt)) (s : Sq) : Prop := ∀ p, s.nx.getD p 0 ≤ (R.getD p []).length

theorem takeWhile_le {th : Dt → Bool} : ∀ (L : List Dt), (L.takeWhile th).length ≤ L.length
  | [] => Nat.le_refl _
  | x :: r => by
    have := takeWhile_le (th := th) r
    simp only [List.takeWhile]
    split <;> simp; omega

theorem Sq.Ok.one {R : List (List Dt)} {s : Sq} (h : Sq.Ok R s) (th : Dt → Bool) (p : Nat) : Sq.Ok R (Sq.one R th s p) := by
  have hle : s.nx.getD p 0 + (((R.getD p []).drop (s.nx.getD p 0)).takeWhile th).length ≤ (R.getD p []).length := by
    have h1 := takeWhile_le (th := th) ((R.getD p []).drop (s.nx.getD p 0))
    have h2 := h p
    rw [List.length_drop] at h1
    omega
  have hs : (Sq.one R th s p).nx = s.nx.set p (s.nx.getD p 0 + (((R.getD p []).drop (s.nx.getD p 0)).takeWhile th).length) := by
    unfold Sq.one
    split <;> rfl
  intro q
  rw [hs]
  by_cases hq : q = p
  · subst hq
    by_cases hlt : q < s.nx.length
    · simp only [List.getD_eq_getElem?_getD, List.getElem?_set, hlt]
      simpa [List.getD_eq_getElem?_getD] using hle
    · simp only [List.getD_eq_getElem?_getD, List.getElem?_set, hlt]
      simp
  · have : ¬ p = q := fun e => hq e.symm
    have h0 := h q
    simp only [List.getD_eq_getElem?_getD, List.getElem?_set, this] at h0 ⊢
    simpa using h0

theorem Sq.Ok.fold {R : List (List Dt)} {th : Dt → Bool} : ∀ (ps : List Nat) {s : Sq}, Sq.Ok R s → Sq.Ok R (ps.foldl (Sq.one R th) s)
  | [], _, h => h
  | p :: r, _, h => Sq.Ok.fold r (h.one th p)

theorem one_nlen (R : List (List Dt)) (th : Dt → Bool) (s : Sq) (p : Nat) : (Sq.one R th s p).nx.length = s.nx.length := by
  unfold Sq.one
  split <;> simp
end

section
open Go.RowKit Go.Maps

theorem dm_look {w : World} {b n : Nat} {g : Dt → Option Int} (h : DM w b n g) {d : Dt} (hd : Dw d) : ∃ cc : Int, (∀ x, g d = some x → cc = x) ∧ (g d = none → cc = 0) ∧ ∀ W : World, W.heap[b]? = w.heap[b]? →
    (Instr.lookup 46 (.map (some b)) (dv d) true).run Tryz.prog W = .ok (.tuple #[.int .i64 cc, .bool (g d).isSome]) W ∧ (Instr.lookup 46 (.map (some b)) (dv d) false).run Tryz.prog W = .ok (.int .i64 cc) W := by
  obtain ⟨D, hown, hT⟩ := h
  obtain ⟨h1, h2⟩ := hT d hd
  have hall : ∀ W : World, W.heap[b]? = w.heap[b]? → ∃ c : Int, (Instr.lookup 46 (.map (some b)) (dv d) true).run Tryz.prog W = .ok (.tuple #[.int .i64 c, .bool (g d).isSome]) W ∧ (Instr.lookup 46 (.map (some b)) (dv d) false).run Tryz.prog W = .ok (.int .i64 c) W ∧ D.atKey (kl d) (.lit (.int .i64 0)) = .lit (.int .i64 c) := fun W hW => by
    have hownW : W.ownsMap Tryz.prog 32 (plainElem (H := Unit) Tryz.prog 3) b n D := by
      obtain ⟨es, clock, k1, k2⟩ := hown
      exact ⟨es, clock, by rw [hW]; exact k1, k2⟩
    obtain ⟨c, r1, r2, _⟩ := hownW.lookup_int law Tryz.underlying46 Tryz.underlying3 (zero3 W) (keyOf_dot hd)
    obtain ⟨v, ps, r3, r4⟩ := hownW.look_ok law Tryz.underlying46 (zero3 W) (plainElem_int Tryz.underlying3 (by decide)) (keyOf_dot hd)
    obtain ⟨c', rfl, hc, _⟩ := plainElem_int_inv Tryz.underlying3 r4
    have hc1 := congrArg Prod.fst hc
    simp only at hc1
    rw [r2] at hc1
    cases hc1
    exact ⟨c, by rw [r3, h1], r1, r2⟩
  obtain ⟨cc, _, _, r0⟩ := hall w rfl
  refine ⟨cc, fun x hx => ?_, fun hx => ?_, fun W hW => ?_⟩
  · have := h2 x hx (.lit (.int .i64 0))
    rw [r0] at this
    cases this
    rfl
  · rw [hx] at h1
    have h1' : Maps.has D (kl d) = false := h1
    have hn := atKey_of_not_has h1' (.lit (.int .i64 0))
    rw [r0] at hn
    cases hn
    rfl
  · obtain ⟨c, q1, q2, q3⟩ := hall W hW
    rw [r0] at q3
    cases q3
    exact ⟨q1, q2⟩
end
end Go.Proofs.YtlncokkpdkddlaaGreat
