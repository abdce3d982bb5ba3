/- Order: what is taken in, and what is left. -/
import Derived.Test.YtlncokkpdkddlaaGreatQLook
import Derived.Test.YtlncokkpdkddlaaGreatQStep
import Derived.Test.YtlncokkpdkddlaaGreatQPut
import Derived.Test.YtlncokkpdkddlaaGreatQPut
import Derived.Deep.RegionWith
namespace Go.Proofs.YtlncokkpdkddlaaGreat
open Go.RowKit Go.Maps Go.WideElems Go.MapKept
open Go.ChangeMaps (setBlock heap_setBlock_same heap_setBlock_other)

theorem tk_start (w1 : World) (ra : Option Addr) (rc : Nat) (R : List Mo) (w : World) (hb : RowKit.Below w1.heap.size w1 w) (hs : w1.heap.size + 4 ≤ w.heap.size) (h0 : w.heap[w1.heap.size]? = some (.map #[] 0)) (h1 : w.heap[w1.heap.size + 1]? = some (.map #[] 0))
    (h2 : w.heap[w1.heap.size + 2]? = some (.cells #[.slice ra R.length rc, .map (some w1.heap.size), .slice (some ⟨w1.heap.size + 3, 0, none⟩) R.length R.length, .map (some (w1.heap.size + 1)), .slice none 0 0] 50)) (h3 : w.heap[w1.heap.size + 3]? = some (.cells (nxc (List.replicate R.length 0)) 3)) :
    TK w1 ra rc R w (fun _ => false) ⟨List.replicate R.length 0, fun _ => [], []⟩ (.slice none 0 0) [] 0 0 none (.slice none 0 0) (fun _ => False) := by
  refine ⟨hb, hs, h2, ⟨fun _ => none, ⟨_, ⟨#[], 0, h0, ⟨by simp, stamped_empty 0, by simp⟩, Nat.le_refl _, rfl⟩, tells_empty⟩, fun _ => rfl⟩, h3, by simp, ⟨.map [], ⟨#[], 0, h1, ⟨by simp, stamped_empty 0, by simp⟩, Nat.le_refl _, rfl, by omega, by simp, by simp⟩, MW.nil⟩, ?_, World.ownsInts_nil _ _ _ _, ?_, List.Perm.refl _, ?_, ?_, ?_⟩
  · intro es clock hh x hx
    rw [h1] at hh
    cases hh
    simp at hx
  · intro k _ hk; simp at hk
  · intro i hi; cases hi
  · intro i hi; cases hi
  · intro g hg; cases hg

theorem three_blocks (w1 : World) (a b c : Obj) : ((((w1.alloc a).alloc b).alloc c).heap[w1.heap.size]? = some a ∧ (((w1.alloc a).alloc b).alloc c).heap[w1.heap.size + 1]? = some b ∧ (((w1.alloc a).alloc b).alloc c).heap[w1.heap.size + 2]? = some c) ∧ (((w1.alloc a).alloc b).alloc c).heap.size = w1.heap.size + 3 ∧ RowKit.Below w1.heap.size w1 (((w1.alloc a).alloc b).alloc c) := by
  refine ⟨⟨?_, ?_, ?_⟩, by simp, (((Below.refl _ _).alloc (Nat.le_refl _) _).alloc (by simp) _).alloc (by simp; omega) _⟩
  · show ((((w1.heap.push a).push b).push c))[w1.heap.size]? = some a
    simp only [Array.getElem?_push, Array.size_push]
    rw [if_neg (by omega), if_neg (by omega), if_pos trivial]
  · show ((((w1.heap.push a).push b).push c))[w1.heap.size + 1]? = some b
    simp only [Array.getElem?_push, Array.size_push]
    rw [if_neg (by omega), if_pos trivial]
  · show ((((w1.heap.push a).push b).push c))[w1.heap.size + 2]? = some c
    simp only [Array.getElem?_push, Array.size_push]
    rw [if_pos trivial]

/-- Nothing. -/
def zop : OpIn := ⟨0, 0, 0, 0, 0, 0, 0, 0, 0, 0, 0, 0, { data := #[] }⟩

/-- Those that aren't taken in. -/
def lf (R : List Mo) (T : List Nat) : List Mo := R.filter (fun x => !thT (R.map (fun x => x.o.id)) T x.o.id)

theorem nat_row {l : List Int} (h : ∀ z ∈ l, ∃ p : Nat, z = (p : Int)) : ∃ ps : List Nat, l = ps.map (fun (x : Nat) => (x : Int)) := by
  induction l with
  | nil => exact ⟨[], rfl⟩
  | cons z r ih =>
    obtain ⟨ps, hr⟩ := ih (fun x hx => h x (by simp [hx]))
    obtain ⟨p, hp⟩ := h z (by simp)
    exact ⟨p :: ps, by rw [hr, hp]; rfl⟩

theorem iv_zlen {Vs : List (List Dt)} {th : Dt → Bool} {a : Nat} {T : List Nat} {s : Sq} {L : List Nat} (h : IV Vs th a T s L) : s.Z.length ≤ a := by
  have h1 : s.Z.length ≤ ((List.range a).map (fun (x : Nat) => (x : Int))).length := List.Nodup.length_le_of_subset h.ndz (fun z hz => by
    obtain ⟨p, e, hp, _⟩ := h.rdy z hz
    exact List.mem_map.2 ⟨p, List.mem_range.2 hp, e.symm⟩)
  simpa using h1

theorem OpAtO.below {w w' : World} {q s B : Nat} {x : Mo} (h : OpAtO w q s x) (hb : RowKit.Below B w w') (hq : q < B) : OpAtO w' q s x := by
  constructor
  · exact (hb.cell hq).trans h.c0
  · exact (hb.cell hq).trans h.c1
  · exact (hb.cell hq).trans h.c2
  · exact (hb.cell hq).trans h.c3
  · exact (hb.cell hq).trans h.c4
  · exact (hb.cell hq).trans h.c5
  · exact (hb.cell hq).trans h.c6
  · exact (hb.cell hq).trans h.c7
  · exact (hb.cell hq).trans h.c8
  · exact (hb.cell hq).trans h.c9
  · exact (hb.cell hq).trans h.c10
  · exact (hb.cell hq).trans h.c11
  · exact (hb.cell hq).trans h.c12
  · exact (hb.cell hq).trans h.c13

theorem cnt1_sub {out : List Mop} {x y : Mop} (h : y ∈ cnt1 out x) : y ∈ out ∨ y = x := by
  unfold cnt1 at h
  split at h
  · rcases List.mem_append.1 h with h | h
    · exact .inl h
    · exact .inr (by simpa using h)
  · exact .inl h

theorem cnt1_len (out : List Mop) (x : Mop) : (cnt1 out x).length ≤ out.length + 1 := by
  unfold cnt1
  split <;> simp

theorem fold_sub (l : List Mop) : ∀ (out : List Mop) (y : Mop), y ∈ l.foldl cnt1 out → y ∈ out ∨ y ∈ l := by
  induction l with
  | nil => intro out y h; exact .inl h
  | cons x r ih =>
    intro out y h
    rcases ih _ y h with h | h
    · rcases cnt1_sub h with h | h
      · exact .inl h
      · exact .inr (by simp [h])
    · exact .inr (by simp [h])

theorem fold_len (l : List Mop) : ∀ out : List Mop, (l.foldl cnt1 out).length ≤ out.length + l.length := by
  induction l with
  | nil => intro out; simp
  | cons x r ih =>
    intro out
    have h1 := ih (cnt1 out x)
    have h2 := cnt1_len out x
    simp only [List.foldl_cons, List.length_cons]
    omega

theorem cnt_sub {l : List Mop} {y : Mop} (h : y ∈ cnt l) : y ∈ l := by
  rcases fold_sub l [] y h with h | h
  · simp at h
  · exact h

theorem cnt_len (l : List Mop) : (cnt l).length ≤ l.length := by
  have := fold_len l []
  unfold cnt
  simpa using this

theorem order_start {w1 w2 : World} {ra : Option Addr} {rc : Nat} {R : List Mo} {wt : World} (hwt : wt = ((w1.alloc (.map #[] 0)).alloc (.map #[] 0)).alloc (.cells #[.slice ra R.length rc, .map (some w1.heap.size), .slice none 0 0, .map (some (w1.heap.size + 1)), .slice none 0 0] 50))
    (hb : RowKit.Below wt.heap.size wt w2) (h3 : w2.heap[wt.heap.size]? = some (.cells (nxc (List.replicate R.length 0)) 3)) :
    w2.heap[w1.heap.size + 2]? = some (.cells #[.slice ra R.length rc, .map (some w1.heap.size), .slice none 0 0, .map (some (w1.heap.size + 1)), .slice none 0 0] 50) ∧
    TK w1 ra rc R (w2.setCell ⟨w1.heap.size + 2, 2, none⟩ (.slice (some ⟨w1.heap.size + 3, 0, none⟩) R.length R.length)) (fun _ => false) ⟨List.replicate R.length 0, fun _ => [], []⟩ (.slice none 0 0) [] 0 0 none (.slice none 0 0) (fun _ => False) := by
  obtain ⟨⟨b0, b1, b2⟩, hsz, hbl⟩ := three_blocks w1 (.map #[] 0) (.map #[] 0) (.cells #[.slice ra R.length rc, .map (some w1.heap.size), .slice none 0 0, .map (some (w1.heap.size + 1)), .slice none 0 0] 50)
  rw [← hwt] at b0 b1 b2 hsz hbl
  have s2 : w1.heap.size + 4 ≤ w2.heap.size := by
    have := (Array.getElem?_eq_some_iff.1 h3).1
    omega
  have hk : ∀ i, i ≠ w1.heap.size + 2 → (w2.setCell ⟨w1.heap.size + 2, 2, none⟩ (.slice (some ⟨w1.heap.size + 3, 0, none⟩) R.length R.length)).heap[i]? = w2.heap[i]? := fun i hi => by
    have : w1.heap.size + 2 ≠ i := fun e => hi e.symm
    simp [World.setCell, Array.getElem?_modify, this]
  have c0 := (hb.block _ (by omega : w1.heap.size < wt.heap.size)).trans b0
  have c1 := (hb.block _ (by omega : w1.heap.size + 1 < wt.heap.size)).trans b1
  have c2 := (hb.block _ (by omega : w1.heap.size + 2 < wt.heap.size)).trans b2
  refine ⟨c2, tk_start w1 ra rc R _ ?_ (by simpa [World.setCell] using s2) ((hk _ (by omega)).trans c0) ((hk _ (by omega)).trans c1) ?_ ?_⟩
  · exact (hbl.trans (hb.mono (by omega))).grown (grownBy_setCell w2 _ 2 _) (by omega) (fun j hj => by cases hj; omega)
  · simp [World.setCell, Array.getElem?_modify, c2]
  · rw [hk _ (by omega)]
    rw [hsz] at h3
    exact h3

set_option maxRecDepth 100000 in
set_option maxHeartbeats 40000000 in
theorem order8_any (a : Option Addr) (n c : Nat) (L : List Mo) (w : World) (hs : OS w a n c L) (hF : ∀ x ∈ L, x.o.Fits ∧ Dws x.V ∧ x.n ≤ 1000000) (hn : n ≤ 1000) :
    Calls Tryz.prog 8 #[.slice a n c] w fun e w' => ∃ (R : List Mo) (T : List Nat) (a1 : Option Addr) (c1 : Nat) (a2 : Option Addr) (c2 : Nat), e = .returned (.tuple #[.slice a1 T.length c1, .slice a2 (lf R T).length c2]) ∧ UpO R ∧ (R.map Mo.m).Perm (cnt (L.map Mo.m)) ∧ (∀ x ∈ R, x.o.Fits ∧ Dws x.V) ∧ Ch (R.map Mo.V) (R.map (fun x => x.o.id)) T ∧ nxt (R.map Mo.V) (R.map (fun x => x.o.id)) T = none ∧ OS w' a1 T.length c1 (inL R T) ∧ OS w' a2 (lf R T).length c2 (lf R T) ∧ RowKit.Below w.heap.size w w' := by
  have hmk := @run_makeMap Tryz.prog
  have hCo := counting_any a n c L w hs hF (by omega)
  go_enter Tryz.func8, Tryz.ntmps8
  go_wp2_with (first
    | (go_at_call 20; refine hCo.mono ?_; rintro e w1 ⟨ra, rc, R, rfl, hR, hU, hP, hFR, hB1⟩; have hRl : R.length ≤ 1000 := (by have h1 := hP.length_eq; have h2 := cnt_len (L.map Mo.m); have h3 := hs.len; simp at h1 h2; omega))
    | (at_make; refine wl_make3 rfl _ _ rfl R.length rfl rfl (by omega) ?_; intro w2 hz2 hb2; obtain ⟨hTB, hTK⟩ := order_start rfl hb2 hz2; have e2 : w2.cell? ⟨w1.heap.size + 2, 2, none⟩ = some (.slice none 0 0) := (by simp [World.cell?, hTB]); have f2 := frozen_of_block hTB 2; obtain ⟨w3, hw3⟩ : ∃ w3, w2.setCell ⟨w1.heap.size + 2, 2, none⟩ (.slice (some ⟨w1.heap.size + 3, 0, none⟩) R.length R.length) = w3 := ⟨_, rfl⟩; rw [hw3] at hTK; have e0 : w3.cell? ⟨w1.heap.size + 2, 0, none⟩ = some (.slice ra R.length rc) := (by simp [World.cell?, hTK.tk]); have HT3 := hid hTK; clear hTK hz2 hb2 hTB))
  have hFR2 : ∀ x ∈ R, Dws x.V ∧ x.n ≤ 1000000 := fun x hx => ⟨(hFR x hx).2, by
    have h1 := cnt_sub (hP.mem_iff.1 (List.mem_map.2 ⟨x, hx, rfl⟩))
    obtain ⟨y, hy, hye⟩ := List.mem_map.1 h1
    have h2 := (hs.deps y hy).len
    have h3 := (hR.deps x hx).len
    have h4 := (hF y hy).2.2
    have h5 : y.V = x.V := congrArg Prod.snd hye
    rw [← h3, ← h5, h2]
    exact h4⟩
  have hVl : (R.map Mo.V).length = R.length := by simp
  have HV := hid hVl
  have HND : Hid ((R.map (fun x => x.o.id)).Nodup) := hid (by
    have := (hP.map (fun (x : Mop) => x.1.id)).nodup_iff.2 (cnt_nodup _)
    simpa [Function.comp_def] using this)
  clear hVl hCo hs hF
  go_loopw [21] (fun i wr => ∃ (k : Nat) (v : Value) (zs : List Int) (kw : Nat), k ≤ R.length ∧ i = .int .i64 k ∧ kw ≤ k ∧ zs.length ≤ k ∧ Hid (TK w1 ra rc R wr (fun _ => false) ((List.range k).foldl (Sq.one (R.map Mo.V) (fun _ => false)) ⟨List.replicate R.length 0, fun _ => [], []⟩) v zs 0 kw none (.slice none 0 0) (fun _ => False))) (fun i _ => R.length - (intOf i).toNat)
  case atStart => exact ⟨0, _, [], 0, by omega, rfl, by omega, by simp, HT3⟩
  case round =>
    obtain ⟨k, v, zs, kw, hk, rfl, hkw, hzs, hT⟩ := hrel
    by_cases hlt : k < R.length
    · have hTf := (hT.out.fresh (.cells #[.int .i64 (k : Int)] 3)).weaken (No' := fun i => i = wr.heap.size) (fun i hi => .inr hi) (fun g hg => by cases hg)
      have hok : Sq.Ok (R.map Mo.V) ((List.range k).foldl (Sq.one (R.map Mo.V) (fun _ => false)) ⟨List.replicate R.length 0, fun _ => [], []⟩) := by
        have := (iv_first (R.map Mo.V) k (by rw [HV.out]; omega)).1.ok
        rw [HV.out] at this
        exact this
      have hst := hid (show (List.range (k + 1)).foldl (Sq.one (R.map Mo.V) (fun _ => false)) ⟨List.replicate R.length 0, fun _ => [], []⟩ = [k].foldl (Sq.one (R.map Mo.V) (fun _ => false)) ((List.range k).foldl (Sq.one (R.map Mo.V) (fun _ => false)) ⟨List.replicate R.length 0, fun _ => [], []⟩) by rw [List.range_succ, List.foldl_append])
      generalize (List.range k).foldl (Sq.one (R.map Mo.V) (fun _ => false)) ⟨List.replicate R.length 0, fun _ => [], []⟩ = sk at *
      have hc0 : (wr.alloc (.cells #[.int .i64 (k : Int)] 3)).cell? ⟨wr.heap.size, 0, none⟩ = some (.int .i64 (k : Int)) := by go_simp
      have hLo := look_any hTf hR hFR2 (by omega) [k] (some ⟨wr.heap.size, 0, none⟩) 1 (fun _ => ⟨wr.heap.size, rfl, rfl, fun j hj => by
        have : j = 0 := by simp at hj; omega
        subst this
        exact hc0⟩) (fun p hp => by simp at hp; omega) (by simp; unfold maxLen; omega) hok (fun d hd => by cases hd) (fun i hi => by subst hi; simp) (by simp; omega) (by simp; omega)
      simp only [List.length_singleton] at hLo
      clear hTf hok hc0 HT3
      go_wp2_with (first
        | (go_at_call 21; refine hLo.mono ?_; rintro e w5 ⟨rfl, v5, zs5, kw5, hT5, hk5, hz5, hN5⟩))
      go_roundw
      case rel =>
        refine ⟨k + 1, v5, zs5, kw5, by omega, by go_num, by omega, by omega, hid ?_⟩
        rw [hst.out]
        exact hT5.weaken (fun i hi => hi.elim) (fun g hg => by cases hg)
      case measure => simp [intOf]; omega
    · obtain rfl : k = R.length := by omega
      have hIV := (iv_first (R.map Mo.V) R.length (by rw [HV.out]; omega)).1
      rw [HV.out] at hIV
      generalize (List.range R.length).foldl (Sq.one (R.map Mo.V) (fun _ => false)) ⟨List.replicate R.length 0, fun _ => [], []⟩ = s1 at *
      have HIV := hid hIV
      clear hIV HT3 e0 e2 f2
      have hTT := hT.out
      rw [← thT_nil (R.map (fun x => x.o.id))] at hTT
      have hII := HIV.out
      rw [← thT_nil (R.map (fun x => x.o.id))] at hII
      go_wp2_with fail
      go_loopw [6] (fun vin wr => ∃ (T : List Nat) (s : Sq) (v : Value) (zs : List Int) (kw : Nat), T.length ≤ R.length ∧ sln vin = T.length ∧ kw ≤ R.length + T.length * R.length ∧ Hid (TK w1 ra rc R wr (thT (R.map (fun x => x.o.id)) T) s v zs T.length kw none (.slice none 0 0) (fun i => vin.ownBlock = some i)) ∧ Hid (IV (R.map Mo.V) (thT (R.map (fun x => x.o.id)) T) R.length T s []) ∧ Hid (Ch (R.map Mo.V) (R.map (fun x => x.o.id)) T) ∧ Hid (OwnO wr (w1.heap.size + 4) vin (inL R T))) (fun vin _ => R.length - sln vin)
      case atStart => exact ⟨[], s1, v, zs, kw, by simp, rfl, by simp; omega, hid (hTT.weaken (fun i hi => by cases hi) (fun g hg => by cases hg)), hid hII, hid (Ch.nil _ _), hid (World.ownsRow_nil _ _ _ _)⟩
      case round =>
        clear hTT hII HIV hT hzs hkw
        obtain ⟨T, s, v, zs, kw, hTl, hsl, hkw, hT, hI, hC, hO⟩ := hrel
        have hTK := hT.out
        have hzl : zs.length ≤ 1000 := by
          have h1 := hTK.perm.length_eq
          have h2 := iv_zlen hI.out
          omega
        have ht4 : wr.cell? ⟨w1.heap.size + 2, 4, none⟩ = some v := by simp [World.cell?, hTK.tk]
        obtain ⟨va, vc, hvs⟩ : ∃ va vc, v = .slice va zs.length vc := by
          rcases hTK.rdy.1.2 with ⟨h, hn⟩ | ⟨g, cap, cur, h, _⟩
          · exact ⟨none, 0, by rw [h, hn]⟩
          · exact ⟨_, _, h⟩
        by_cases h0 : zs = []
        · have hNone : Hid (nxt (R.map Mo.V) (R.map (fun x => x.o.id)) T = none) := hid (none_of (Vs := R.map Mo.V) (by rw [HV.out]; exact hI.out) (by
            have := hTK.perm
            rw [h0] at this
            exact List.nil_perm.1 this))
          have hil := inL_length (R := R) (T := T) (fun p hp => (hI.out.took p hp).1)
          obtain ⟨ua, uc, hus, hos⟩ := owned_os hO.out (fun x hx => (hR.below hTK.below).deps x (inL_mem hx))
          rw [hil] at hus hos
          have hLe := left_any hTK hR (fun x hx => (hFR x hx).1) (by omega)
          have HOS := hid hos
          have HB := hid hTK.below
          clear hTK hos
          subst hvs
          subst h0
          subst hus
          go_wp2_with (first
            | (go_at_call 23; refine hLe.mono ?_; rintro e w5 ⟨a5, c5, rfl, hos5, hB5⟩))
          go_ret2
          exact ⟨R, T, ua, uc, a5, c5, rfl, hU, hP, hFR, hC.out, hNone.out, HOS.out.below hB5, hos5, below2 hB1 (HB.out.trans (hB5.mono HB.out.size))⟩
        · have hzp : 0 < zs.length := List.length_pos_iff.2 h0
          have hm0 : nb zs 0 ∈ s.Z := hTK.perm.mem_iff.1 (by rw [nb_get hzp]; exact List.getElem_mem _)
          obtain ⟨p, hpe, hpR, _, hpT, _⟩ := hI.out.rdy _ hm0
          have HPm := hid hTK.perm
          have hm0' : (p : Int) ∈ s.Z := by rw [← hpe]; exact hm0
          have hlz : ∀ z ∈ s.Z, (p : Int) ≤ z := fun z hz => by
            have h1 : z ∈ zs := hTK.perm.mem_iff.2 hz
            obtain ⟨j, hj, rfl⟩ := List.getElem_of_mem h1
            rw [← hpe, ← nb_get hj]
            exact hTK.hp.least j hj
          have hPop := fun W (hf : Far wr W) => pop_any (w1.heap.size + 2) 4 W (w1.heap.size + 4) v zs (hTK.far hf).rdy h0 (by omega) (by simp [World.cell?, (hTK.far hf).tk]) (frozen_of_block (hTK.far hf).tk 4) (by omega) hTK.hp
          rw [hpe] at hPop
          obtain ⟨rg, ro, rfl, hrg, hrc⟩ := hR.at (by omega : 0 < R.length)
          have hcells := hrc p hpR
          have hxR : R[p] ∈ R := List.getElem_mem hpR
          have hinS := hid (inL_snoc (T := T) hpR)
          have hxid := hid (show (R.map (fun x => x.o.id)).getD p (0, 0) = (R[p]).o.id by simp [List.getD_eq_getElem?_getD, hpR])
          have ht0 : wr.cell? ⟨w1.heap.size + 2, 0, none⟩ = some (.slice (some ⟨rg, ro, none⟩) R.length rc) := by simp [World.cell?, hTK.tk]
          have hta := assert_int
          have hPopT := fun W w3 v3 ys (hf : Far wr W) (h1 : OI w3 (w1.heap.size + 4) v3 ys) (h2 : Hp ys) (h3 : Two W w3 (w1.heap.size + 2) 4 v3 v.ownBlock) (h4 : v3.ownBlock = v.ownBlock) => (hTK.far hf).pop h1 h2 h3 h4
          have hPopE := fun w3 v3 ys (h1 : OI w3 (w1.heap.size + 4) v3 ys) (h2 : Hp ys) (h3 : Two (wr.alloc (.cells #[.int .i64 0, .int .i64 0, .int .i64 0, .slice none 0 0, .int .i64 0, .int .i64 0, .int .i64 0, .int .i64 0, .int .i64 0, .int .i64 0, .int .i64 0, .int .i64 0, .int .i64 0, .string { data := #[] }] 36)).drew w3 (w1.heap.size + 2) 4 v3 v.ownBlock) (h4 : v3.ownBlock = v.ownBlock) => ((hTK.fresh (.cells #[.int .i64 0, .int .i64 0, .int .i64 0, .slice none 0 0, .int .i64 0, .int .i64 0, .int .i64 0, .int .i64 0, .int .i64 0, .int .i64 0, .int .i64 0, .int .i64 0, .int .i64 0, .string { data := #[] }] 36)).far ((Far.refl _).drew)).pop h1 h2 h3 h4
          generalize R[p] = x at *
          obtain ⟨op, xa, xn, xc, xV⟩ := x
          have hFd : Far wr wr.drew := (Far.refl wr).drew
          have HVL : Hid (∀ g, v.ownBlock = some g → g < wr.heap.size) := hid (fun g hg => (hTK.rdy.1.lt g hg).2)
          have hts : w1.heap.size + 4 ≤ wr.heap.size := hTK.size
          clear hrc hTK
          subst hvs
          go_wp2_with fail
          go_cut [7] from 28 to 39 (fun s7 wc => ∃ (q : Nat) (ys : List Int) (v3 : Value), s7 = .pointer (some ⟨q, 0, none⟩) ∧ Hid (TK w1 (some ⟨rg, ro, none⟩) rc R wc (thT (R.map (fun x => x.o.id)) T) ⟨s.nx, s.W, ys⟩ v3 ys T.length kw none (.slice none 0 0) (fun i => u6.ownBlock = some i ∨ i = q)) ∧ Hid (zs.Perm ((p : Int) :: ys)) ∧ Hid (∀ z ∈ zs, (p : Int) ≤ z) ∧ Hid (OwnO wc (w1.heap.size + 4) u6 (inL R T)) ∧ wc.heap[q]? = some (.cells (op.cells (.slice xa xn xc)) 36) ∧ u6.ownBlock ≠ some q)
          case first =>
            have hFe : Far wr (wr.alloc (.cells #[.int .i64 0, .int .i64 0, .int .i64 0, .slice none 0 0, .int .i64 0, .int .i64 0, .int .i64 0, .int .i64 0, .int .i64 0, .int .i64 0, .int .i64 0, .int .i64 0, .int .i64 0, .string { data := #[] }] 36)).drew := ((Far.refl wr).alloc _).drew
            have hPd := hPop _ hFd
            have hPe := hPop _ hFe
            have hvl : ∀ g, (Value.slice va zs.length vc).ownBlock = some g → g < wr.heap.size := HVL.out
            have hqz : (wr.alloc (.cells #[.int .i64 0, .int .i64 0, .int .i64 0, .slice none 0 0, .int .i64 0, .int .i64 0, .int .i64 0, .int .i64 0, .int .i64 0, .int .i64 0, .int .i64 0, .int .i64 0, .int .i64 0, .string { data := #[] }] 36)).heap[wr.heap.size]? = some (.cells #[.int .i64 0, .int .i64 0, .int .i64 0, .slice none 0 0, .int .i64 0, .int .i64 0, .int .i64 0, .int .i64 0, .int .i64 0, .int .i64 0, .int .i64 0, .int .i64 0, .int .i64 0, .string { data := #[] }] 36) := (MapKept.heap_alloc wr _).1
            have hQz : ∀ w3 v3, Two (wr.alloc (.cells #[.int .i64 0, .int .i64 0, .int .i64 0, .slice none 0 0, .int .i64 0, .int .i64 0, .int .i64 0, .int .i64 0, .int .i64 0, .int .i64 0, .int .i64 0, .int .i64 0, .int .i64 0, .string { data := #[] }] 36)).drew w3 (w1.heap.size + 2) 4 v3 (Value.slice va zs.length vc).ownBlock → w3.heap[wr.heap.size]? = some (.cells (zop.cells (.slice none 0 0)) 36) := fun w3 v3 h3 => (h3.block wr.heap.size (by show wr.heap.size < (wr.alloc _).heap.size; simp) (by omega) (fun e => by have := hvl _ e.symm; omega)).trans hqz
            have htb : w1.heap.size + 2 < wr.heap.size := by omega
            clear hPop
            go_region_with (first
              | (go_at_call 22; with_reducible refine hPd.mono ?_; rintro e w3 ⟨rfl, v3, ys, hO3, hc3, hH3, hp3, hl3, hT3, hv3⟩; obtain ⟨hTw, hNw⟩ := hPopT _ _ _ _ hFd hO3 hH3 hT3 hv3; have ht03 : w3.cell? ⟨w1.heap.size + 2, 0, none⟩ = some (.slice (some ⟨rg, ro, none⟩) R.length rc) := (by simp [World.cell?, hTw.tk]); obtain ⟨c0, c1, c2, c3, c4, c5, c6, c7, c8, c9, c10, c11, c12, c13⟩ := hcells.below hTw.below hrg; have hrg3 : rg < w3.heap.size := Nat.lt_of_lt_of_le hrg hTw.below.size; have hsz3 := hT3.size; have htb3 : w1.heap.size + 2 < w3.heap.size := cell_in ht03; have HTw := hid (And.intro hTw hNw); clear hTw hNw)
              | (go_at_call 22; with_reducible refine hPe.mono ?_; rintro e w3 ⟨rfl, v3, ys, hO3, hc3, hH3, hp3, hl3, hT3, hv3⟩; obtain ⟨hTw, hNw⟩ := hPopE _ _ _ hO3 hH3 hT3 hv3; have ht03 : w3.cell? ⟨w1.heap.size + 2, 0, none⟩ = some (.slice (some ⟨rg, ro, none⟩) R.length rc) := (by simp [World.cell?, hTw.tk]); obtain ⟨c0, c1, c2, c3, c4, c5, c6, c7, c8, c9, c10, c11, c12, c13⟩ := hcells.below hTw.below hrg; have hrg3 : rg < w3.heap.size := Nat.lt_of_lt_of_le hrg hTw.below.size; have hsz3 := hT3.size; have htb3 : w1.heap.size + 2 < w3.heap.size := cell_in ht03; have HTw := hid (And.intro hTw hNw); clear hTw hNw; have hq3 := hQz _ _ hT3; obtain ⟨z0, z1, z2, z3, z4, z5, z6, z7, z8, z9, z10, z11, z12, z13⟩ := opAt_of_block hq3; have hf3 := frozen_of_block hq3))
            all_goals first
              | (have hq := hq3
                 have B := put14_block (o := op) (v := .slice xa xn xc) hq3
                 have G := put14_grown w3 wr.heap.size op (.slice xa xn xc)
                 have hux : u6.ownBlock ≠ some wr.heap.size := fun e => by have := (hO.out.lt _ e).2; omega
                 have hX := HTw.out.1.other G (fun i hi => by cases hi; exact .inr rfl) rfl
                 have hY : OwnO (put14 w3 wr.heap.size op (.slice xa xn xc)) (w1.heap.size + 4) u6 (inL R T) := own_same hO.out (fun g hg => by
                   have hgl := (hO.out.lt g hg).2
                   have h9 : wr.heap.size ≤ w3.heap.size := by
                     have h8 : wr.heap.size ≤ (wr.alloc (.cells (zop.cells (.slice none 0 0)) 36)).heap.size := by simp
                     exact Nat.le_trans h8 hsz3
                   rw [G.block g (by omega) (fun e => hux (by rw [hg]; exact e)), HTw.out.2 g (by show g < (wr.alloc _).heap.size; simp; omega) (.inl hg)]
                   exact (World.grownBy_alloc wr _ none).block g hgl (by simp))
                 change Exit.then _ _ _ _ (put14 w3 wr.heap.size op (.slice xa xn xc))
                 generalize put14 w3 wr.heap.size op (.slice xa xn xc) = W at B hX hY ⊢
                 clear G HTw
                 go_wp2
                 go_meet
                 exact ⟨wr.heap.size, ys, v3, rfl, hid hX, hid hp3, hid hl3, hid hY, B, hux⟩)
              | (have hAb : (w3.alloc (.cells (op.cells (.slice xa xn xc)) 36)).heap[w3.heap.size]? = some (.cells (op.cells (.slice xa xn xc)) 36) := (MapKept.heap_alloc w3 _).1
                 have hX := HTw.out.1.fresh (.cells (op.cells (.slice xa xn xc)) 36)
                 have h9 : wr.heap.size ≤ w3.heap.size := hsz3
                 have hY : OwnO (w3.alloc (.cells (op.cells (.slice xa xn xc)) 36)) (w1.heap.size + 4) u6 (inL R T) := own_same hO.out (fun g hg => by
                   have hgl := (hO.out.lt g hg).2
                   rw [(World.grownBy_alloc w3 _ none).block g (by omega) (by simp)]
                   exact HTw.out.2 g hgl hg)
                 have hZ : u6.ownBlock ≠ some w3.heap.size := fun e => by have := (hO.out.lt _ e).2; omega
                 change Exit.then _ _ _ _ (w3.alloc (.cells (op.cells (.slice xa xn xc)) 36))
                 generalize w3.alloc (.cells (op.cells (.slice xa xn xc)) 36) = W at hX hAb hY ⊢
                 clear HTw
                 go_wp2
                 go_meet
                 exact ⟨w3.heap.size, ys, v3, rfl, hid hX, hid hp3, hid hl3, hid hY, hAb, hZ⟩)
          obtain ⟨q, ys, v3, rfl, hT7, hp7, hl7, hO7, hq7, hne7⟩ := hcut
          obtain ⟨ua, uc, hus⟩ : ∃ ua uc, u6 = .slice ua T.length uc := by
            have hil := inL_length (R := R) (T := T) (fun p hp => (hI.out.took p hp).1)
            rcases hO7.out.2 with ⟨h, hn⟩ | ⟨g, cap, cur, h, _⟩
            · exact ⟨none, 0, by rw [h, ← hil, hn]⟩
            · exact ⟨_, _, by rw [h, hil]⟩
          subst hus
          have hil : Hid ((inL R T).length = T.length) := hid (inL_length (R := R) (T := T) (fun p hp => (hI.out.took p hp).1))
          have hdw : Dw op.id := ⟨(hFR _ hxR).1.id0, (hFR _ hxR).1.id1⟩
          obtain ⟨g7, ⟨D7, hown7, hMT7⟩, hg7⟩ := hT7.out.there
          have ht17 : wc.cell? ⟨w1.heap.size + 2, 1, none⟩ = some (.map (some w1.heap.size)) := by simp [World.cell?, hT7.out.tk]
          obtain ⟨a0, a1, a2, a3, a4, a5, a6, a7, a8, a9, a10, a11, a12, a13⟩ := opAt_of_block hq7
          have hqs : w1.heap.size + 4 ≤ q := hT7.out.nob q (.inr rfl)
          have hql : q < wc.heap.size := (Array.getElem?_eq_some_iff.1 hq7).1
          have hTn : T.length ≤ 1000 := by omega
          have hkb : kw ≤ 1001000 := by
            have h1 : T.length * R.length ≤ 1000 * 1000 := Nat.mul_le_mul hTn hRl
            omega
          -- the new vector of those that are there
          have HG := hid (fun d => thT_snoc (R.map (fun x => x.o.id)) T p d)
          have hth0 : Hid (thT (R.map (fun x => x.o.id)) T op.id = false) := hid (by
            cases hh : thT (R.map (fun x => x.o.id)) T op.id
            · rfl
            · exfalso
              rw [← hxid.out] at hh
              simp only [thT, decide_eq_true_eq, List.mem_map] at hh
              obtain ⟨p', hp', he⟩ := hh
              have hpl' := (hI.out.took p' hp').1
              have e1 : (R.map (fun x => x.o.id)).getD p' (0, 0) = (R.map (fun x => x.o.id))[p']'(by simpa using hpl') := by simp [List.getD_eq_getElem?_getD, hpl']
              have e2 : (R.map (fun x => x.o.id)).getD p (0, 0) = (R.map (fun x => x.o.id))[p]'(by simpa using hpR) := by simp [List.getD_eq_getElem?_getD, hpR]
              rw [e1, e2] at he
              have := (List.getElem_inj HND.out).1 he
              subst this
              exact hpT hp')
          have hGone : ∀ w8 : World, w8.ownsMap Tryz.prog 32 (plainElem (H := Unit) Tryz.prog 3) w1.heap.size (T.length + 1) (D7.put (kl op.id) (.lit (.int .i64 T.length))) → wc.grownBy w8 (some w1.heap.size) → TK w1 (some ⟨rg, ro, none⟩) rc R w8 (thT (R.map (fun x => x.o.id)) (T ++ [p])) ⟨s.nx, s.W, ys⟩ v3 ys (T.length + 1) kw none (.slice none 0 0) (fun i => (Value.slice ua T.length uc).ownBlock = some i ∨ i = q) := fun w8 hown8 hG8 => hT7.out.gone hG8 ⟨_, hown8, hMT7.put hown7.isMap hdw T.length⟩ (fun d => by
            rw [HG.out d, hxid.out]
            by_cases hde : d = op.id
            · rw [if_pos hde, hde]; simp
            · rw [if_neg hde, hg7]; simp [hde])
          have hOg : ∀ w8 : World, wc.grownBy w8 (some w1.heap.size) → OwnO w8 (w1.heap.size + 4) (.slice ua T.length uc) (inL R T) := fun w8 hG8 => hO7.out.kept hG8 (by
            by_cases he : (Value.slice ua T.length uc).ownBlock = none
            · exact .inl he
            · exact .inr (fun e => by have := (hO7.out.lt _ e).1; omega))
          obtain ⟨ps, hps0⟩ : ∃ ps : List Nat, s.W op.id = ps.map (fun (x : Nat) => (x : Int)) := nat_row (fun z hz => by
            obtain ⟨p', e, _⟩ := hI.out.wt op.id hth0.out z hz
            exact ⟨p', e⟩)
          have hps : Hid ((⟨s.nx, s.W, ys⟩ : Sq).W op.id = ps.map (fun (x : Nat) => (x : Int))) := hid hps0
          have hpsl : Hid (∀ p ∈ ps, p < R.length) := hid (fun p' hp' => by
            obtain ⟨p'', e, h2, _⟩ := hI.out.wt op.id hth0.out p' (by rw [hps0]; exact List.mem_map.2 ⟨p', hp', rfl⟩)
            have : p'' = p' := by omega
            subst this
            exact h2)
          have hpsn : ps.length ≤ R.length := by
            have hnd : ps.Nodup := by
              have := hI.out.ndw op.id hth0.out
              rw [hps0] at this
              exact (List.pairwise_map.1 this).imp (fun h e => h (by rw [e]))
            have := List.Nodup.length_le_of_subset hnd (fun x hx => List.mem_range.2 (hpsl.out x hx))
            simpa using this
          have hysl : ys.length ≤ 1000 := by have := hp7.out.length_eq; simp at this; omega
          have hokl : Hid (Sq.Ok (R.map Mo.V) ⟨s.nx, s.W, ys⟩) := hid hI.out.ok
          have hKth : Hid (∀ d, some (dv op.id) = some (dv d) → thT (R.map (fun x => x.o.id)) (T ++ [p]) d = true) := hid (fun d hd => by
            have : op.id = d := (agg_eq op.id d).1 (by simpa using hd)
            rw [HG.out d, hxid.out, this]; simp)
          have hkm : kw < maxLen := by unfold maxLen; omega
          have HPS0 := hid hps0
          clear hps0
          clear hPopT hPop hPopE ht0 ht4
          go_wp2_with (first
            | (at_mapUpdate; refine wpList_mapUpdate_own _ rfl _ _ _ 46 rfl 32 3 law Tryz.underlying46 _ w1.heap.size T.length D7 rfl hown7 (by unfold maxLen; omega) _ _ (kl op.id) rfl rfl (keyOf_dot hdw) (.lit (.int .i64 T.length)) [] (plainElem_int Tryz.underlying3 (WalkArith.wf_i64 (by omega))) ?_; intro w8 hown8 hG8; have hq8 := (hG8.block q hql (by simp; omega)).trans hq7; obtain ⟨a0, a1, a2, a3, a4, a5, a6, a7, a8, a9, a10, a11, a12, a13⟩ := opAt_of_block hq8; have hs8 := hG8.size; have HT8 := hid (hGone w8 hown8 hG8); have HO8 := hid (hOg w8 hG8))
            | (at_builtin; have hq := hq8; refine wpList_append_op rfl _ _ rfl (w1.heap.size + 4) (.slice ua T.length uc) T.length (inL R T) rfl hil.out (HO8.out.alloc _) w8.heap.size ⟨op, xa, xn, xc, xV⟩ rfl (mo_cells _ _ _ (opAt_alloc w8 op (.slice xa xn xc) 36)) (by omega) (by have := HT8.out.size; simp; omega) ?_; intro g9 cap9 w9 hO9 hG9 hat9 hlt9; have hT9 := HT8.out.nine hG9 hat9; have hq9 := (hG9.block q (by simp; omega) (fun e => hne7 e.symm)).trans (((World.grownBy_alloc w8 _ none).block q (by omega) (by simp)).trans hq8); have hq9l := (Array.getElem?_eq_some_iff.1 hq9).1; obtain ⟨b0, b1, b2, b3, b4, b5, b6, b7, b8, b9, b10, b11, b12, b13⟩ := opAt_of_block hq9; obtain ⟨pa, pc, hlu, hpb, hTf, hpn, hpa⟩ := hT9.places (ps := ps) hdw hkm hps.out; have ht39 : w9.cell? ⟨w1.heap.size + 2, 3, none⟩ = some (.map (some (w1.heap.size + 1))) := (by simp [World.cell?, hT9.tk]); have HT9 := hid hT9; have HTf := hid (And.intro hTf (And.intro hpn hpa)); clear hT9 hTf hpn hpa)
            | (go_at_call 21; refine (look_any HTf.out.1 hR hFR2 (by omega) ps pa pc HTf.out.2.2 (fun p hp => hpsl.out p hp) hpb hokl.out (fun d hd => hKth.out d hd) (fun i hi => hi.elim (fun h => h.elim (fun h => by rw [h]; exact hlt9) (fun h => by rw [h]; exact hq9l)) (fun h => (HTf.out.2.1 i h).2)) (by omega) (by omega)).mono ?_; rintro e w10 ⟨rfl, v10, zs10, kw10, hT10, hk10, hz10, hN10⟩))
          go_roundw
          case rel =>
            have hnx := next_of (Vs := R.map Mo.V) (by rw [HV.out]; exact hI.out) hm0' hlz
            have hCh := hC.out.snoc hnx
            have hTR : (T ++ [p]).length ≤ R.length := by
              have := List.Nodup.length_le_of_subset hCh.nodup (fun x hx => List.mem_range.2 (hCh.lt hx))
              simpa using this
            have hTl : (T ++ [p]).length = T.length + 1 := by simp
            refine ⟨T ++ [p], ps.foldl (Sq.one (R.map Mo.V) (thT (R.map (fun x => x.o.id)) (T ++ [p]))) ⟨s.nx, s.W, ys⟩, v10, zs10, kw10, hTR, by rw [hTl]; rfl, ?_, hid ?_, hid ?_, hid hCh, hid ?_⟩
            · rw [hTl, Nat.add_mul, Nat.one_mul]; omega
            · rw [hTl]
              exact (hT10.loosen (fun i hi => (HTf.out.2.1 i hi).1)).weaken (fun i hi => .inl (by simpa [Value.ownBlock] using hi.symm)) (fun g hg => by cases hg)
            · refine (hI.out.pop (p := p) (Z' := ys) (d0 := op.id) (L := ps) (HPm.out.symm.trans hp7.out) (fun d => by rw [HG.out d, hxid.out]) HPS0.out hth0.out).all ps
            · rw [hinS.out]
              have hO9' : OwnO w9 (w1.heap.size + 4) (.slice (some ⟨g9, 0, none⟩) (T.length + 1) cap9) (inL R T ++ [⟨op, xa, xn, xc, xV⟩]) := hO9
              have hgl : g9 < w9.heap.size := hlt9
              exact own_same hO9' (fun g hg => by
                have : g9 = g := by simpa [Value.ownBlock] using hg
                subst this
                exact hN10 g9 (.inl (.inl rfl)) hgl)
          case measure =>
            have hnx := next_of (Vs := R.map Mo.V) (by rw [HV.out]; exact hI.out) hm0' hlz
            have hCh := hC.out.snoc hnx
            have hTR : (T ++ [p]).length ≤ R.length := by
              have := List.Nodup.length_le_of_subset hCh.nodup (fun x hx => List.mem_range.2 (hCh.lt hx))
              simpa using this
            simp at hTR
            simp [sln]
            omega
end Go.Proofs.YtlncokkpdkddlaaGreat
