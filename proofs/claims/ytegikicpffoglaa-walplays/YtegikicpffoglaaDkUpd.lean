/- One file of a disk turns; a file goes; a file has another name. -/
import Derived.Test.YtegikicpffoglaaDkState
import Derived.Deep.RegionHeld
import Derived.Shelf.LaysM
import Derived.Shelf.Strconv.Clone
import Derived.Test.YtegikicpffoglaaProg
namespace Go.Proofs.Ytegikicpffoglaa
section
set_option linter.unusedVariables false
set_option linter.unusedSimpArgs false
open Go.RowKit Go.Sort Go.Maps

theorem Ax.grow {A : Nat → Prop} {r : Nat} {w w' : World} (h : w.heap.size ≤ w'.heap.size) : ∀ j, Ax A r w j → Ax A r w' j := fun j hj => hj.imp id (fun ⟨h1, h2⟩ => ⟨h1, by omega⟩)

theorem FW.tear1 {w w' : World} {left : Lit → Bool} {V : Nm → Value} {k : Nat} {S : List (Nm × Fi)} {A A' : Nat → Prop} (h : FW w (lk (mq (trn left V k) S)) A) {n : Nm} {f : Fi} (hf : lk S n = some f) (hl : left (.string n) = true) (v' : Value) (hA : ∀ j, A j → A' j)
    (hg : w.grownBy w' (some f.g)) (hfl : w'.heap[f.g]? = some (.cells #[v', .int .i64 (lft k f.s f.b.length : Int)] 60 (0, 0)))
    (hr : w'.ownsRow 0 5 1 v' (f.b.take (lft k f.s f.b.length)).length ((f.b.take (lft k f.s f.b.length)).map (Value.int .u8)))
    (ho : ∀ i, v'.ownBlock = some i → f.v.ownBlock = some i ∨ (w.heap.size ≤ i ∧ A' i)) :
    FW w' (lk (mq (trn (fun z => left z && !z.sameKey (.string n)) (fun m => if m = n then v' else V m) k) S)) A' := by
  rw [tear_step left V k S hf v']
  have e0 : lk (mq (trn left V k) S) n = some f := by
    rw [lk_mq, hf]
    simp [trn, hl]
  have hlt : ∀ m f', lk (mq (trn left V k) S) m = some f' → f'.g < w.heap.size ∧ ∀ i, f'.v.ownBlock = some i → i < w.heap.size := fun m f' e => ⟨(Array.getElem?_eq_some_iff.1 (h.file m f' e)).1, fun i hi => (row_lt5 (h.row m f' e) hi).1⟩
  refine h.upd n (f.torn k v') hA hfl hr ⟨hA _ (h.own n f e0).1, fun i hi => ?_⟩ ⟨fun x hx => (h.ok n f e0).1 x (List.mem_of_mem_take hx), ?_⟩ (fun m f' hm e => ?_)
  · rcases ho i hi with h1 | h1
    · exact hA _ ((h.own n f e0).2 i h1)
    · exact h1.2
  · show lft k f.s f.b.length ≤ (f.b.take (lft k f.s f.b.length)).length
    have := lft_le (k := k) (h.ok n f e0).2
    rw [List.length_take]
    omega
  · have hne : f'.g ≠ f.g := fun e' => hm (h.apg m n f' f e e0 e')
    refine ⟨hg.block _ (hlt m f' e).1 (fun e' => hne (by simpa using e')), hne, fun i hi => ⟨hg.block _ ((hlt m f' e).2 i hi) (fun e' => ?_), fun e' => ?_⟩⟩
    · have := h.gv e0 e
      exact this (by rw [hi, e'])
    · rcases ho i e' with h1 | h1
      · exact hm (h.apv m n f' f i e e0 hi h1)
      · have := (hlt m f' e).2 i hi
        omega

theorem FW.keep2 {w w' : World} {M : Nm → Option Fi} {A : Nat → Prop} (h : FW w M A) (hk : ∀ n f, M n = some f → w'.heap[f.g]? = w.heap[f.g]? ∧ ∀ i, f.v.ownBlock = some i → w'.heap[i]? = w.heap[i]?) : FW w' M A :=
  ⟨fun n f e => (hk n f e).1.trans (h.file n f e), fun n f e => row_kept5 (h.row n f e) (hk n f e).2, h.own, h.ok, h.apg, h.apv⟩

/-- The disk's own cells are others: its power, its cut. -/
theorem DA.cell {w w' : World} {d m : Nat} {cv : Value} {room : Nat} {off : Bool} {S : List (Nm × Fi)} {A : Nat → Prop} (h : DA w d m cv room off S A) {cv' : Value} {off' : Bool}
    (hd : w'.heap[d]? = some (.cells #[.int .i64 (room : Int), .map (some m), .bool off', cv'] 54 (0, 0))) (hk : ∀ j, j < w.heap.size → j ≠ d → w'.heap[j]? = w.heap[j]?) (hz : w.heap.size ≤ w'.heap.size) : DA w' d m cv' room off' S A := by
  obtain ⟨hne, hfi⟩ := h.ne
  refine ⟨hd, h.map.same (hk m (h.lt m h.own.2) (Ne.symm hne)), h.files.keep2 (fun n f e => ⟨hk _ (h.lt _ (h.files.own n f e).1) (hfi n f e).1, fun i hi => hk i (h.lt _ ((h.files.own n f e).2 i hi)) (fun e' => (hfi n f e).2.2.1 (by rw [hi, e']))⟩), h.asc, h.few, h.fits, h.small, h.nice, h.own, fun j hj => Nat.lt_of_lt_of_le (h.lt j hj) hz⟩

set_option maxRecDepth 100000 in
set_option maxHeartbeats 8000000 in
theorem tear_any (d m c : Nat) (room o p k : Nat) (off : Bool) (S : List (Nm × Fi)) (A : Nat → Prop) (w : World) (h : DA w d m (.pointer (some ⟨c, 0, none⟩)) room off S A)
    (hc : w.heap[c]? = some (.cells #[.int .i64 (o : Int), .int .i64 (p : Int), .int .i64 (k : Int)] 76 (0, 0))) (hcA : ¬ A c) (hk : k ≤ 9223372036854775807) :
    Calls Try.prog 37 #[.pointer (some ⟨d, 0, none⟩)] w fun e w' => e = .returned (.tuple #[]) ∧ ∃ S' A', DA w' d m (.pointer none) room true S' A' ∧ mp Fi.fl S' = mp (fun f => f.fl.torn k) S ∧ KA w w' A A' := by
  have c1 : w.cell? ⟨d, 1, none⟩ = some (.map (some m)) := cell_blk h.blk rfl
  obtain ⟨D, hown, hsz, hpm, hT⟩ := h.map.full h.asc
  have hmlt := hown.lt
  have hdl := h.lt d h.own.1
  have hcl := (Array.getElem?_eq_some_iff.1 hc).1
  have HD := hid h
  have HT := hid hT
  have HP := hid hpm
  have HC := hid hc
  have hmxo : Try.prog.follows .mixedOrders = true := by kernel_rfl
  clear h hT hpm hsz hc
  go_enter Try.func37, Try.ntmps37
  go_wp2_with (first
    | (at_range; refine wpList_range_own _ rfl _ 51 rfl 9 57 law Try.underlying51 _ m S.length _ rfl hown ?_; intro w0 hrg0 hg0 hs0)
    | go_in)
  go_frame
  go_loopw [] (fun wr => ∃ (left : Lit → Bool) (cnt : Nat) (V : Nm → Value), wr.ranges Try.prog 9 pR m w.heap.size S.length D left cnt ∧ w.heap.size < wr.heap.size ∧ FW wr (lk (mq (trn left V k) S)) (Ax A w.heap.size wr) ∧ KA w wr A (Ax A w.heap.size wr) ∧ wr.heap[d]? = w.heap[d]?) (fun wr => wr.rangeLeft m w.heap.size)
  case atStart =>
    refine ⟨_, _, fun _ => .pointer none, hrg0, by omega, ?_, ⟨by omega, fun j hj _ => hg0.block j hj (by simp), fun j hj => ?_, Sm.g hg0⟩, hg0.block d hdl (by simp)⟩
    · rw [tear_start _ _ _ _ (fun n => (HT.out n).1)]
      exact (HD.out.files.kept (fun j hj => hg0.block j (HD.out.lt j hj) (by simp))).mono (fun j hj => Or.inl hj)
    · rcases hj with hj | hj
      · exact Or.inl hj
      · exact Or.inr (by omega)
  case round =>
    obtain ⟨left, cnt, V, hrg, hz, hF, hK, hd⟩ := hrel
    go_wp2_with (first
      | (at_next; refine wpList_next_ranges _ rfl _ rfl 9 law pR encStr pvo (fun key kl hk => by obtain ⟨x, hx, _⟩ := Maps.keyOf_str Try.underlying9 hk; exact ⟨x, hx⟩) (fun v y hv => by obtain ⟨o, ho, _⟩ := pR_some hv; exact ⟨o, ho⟩) m w.heap.size S.length _ _ _ rfl hrg ?_ ?_)
      | go_in)
    · intro hc0 hl0
      have gd := hd.trans HD.out.blk
      have f2 := frz_blk (i := 2) gd
      have f3 := frz_blk (i := 3) gd
      have b2 : wr.cell? ⟨d, 2, none⟩ = some (.bool off) := cell_blk gd rfl
      have b3 : wr.cell? ⟨d, 3, none⟩ = some (.pointer (some ⟨c, 0, none⟩)) := cell_blk gd rfl
      have hdl' : d < wr.heap.size := by omega
      have hE := hid (tear_end V k S left hl0)
      have hM : MP wr m (mq (trn left V k) S) := ⟨D, by rw [len_mq]; exact hrg.owns, fun n => by
        rw [lk_mq]
        refine ⟨by rw [(HT.out n).1]; simp, ?_⟩
        rw [(HT.out n).2]
        cases lk S n with
        | none => rfl
        | some f => simp [trn_g]⟩
      have hDA : DA wr d m (.pointer (some ⟨c, 0, none⟩)) room off (mq (trn left V k) S) (Ax A w.heap.size wr) :=
        ⟨gd, hM, hF, asc_mq _ HD.out.asc, by rw [len_mq]; exact HD.out.few, Nat.le_trans (sm_mq_le _ (fun f => f.b.length) _ (fun n f => by
          unfold trn
          split
          · exact Nat.le_refl _
          · simp [Fi.torn]
            omega) S) HD.out.fits, HD.out.small, fun n f e => by
          rw [lk_mq] at e
          obtain ⟨f', e', _⟩ := Option.map_eq_some_iff.1 e
          exact HD.out.nice n f' e', ⟨Or.inl HD.out.own.1, Or.inl HD.out.own.2⟩, fun j hj => by
          rcases hj with hj | hj
          · have := HD.out.lt j hj; omega
          · exact hj.2⟩
      have HA := hid (And.intro hDA hK)
      have G := hid gd
      clear hDA hK hF hM hl0 hc0 hd gd hrg
      go_wp2
      all_goals go_end0
      all_goals
        refine ⟨rfl, mq (trn left V k) S, Ax A w.heap.size wr, HA.out.1.cell ?_ ?_ ?_, hE.out, HA.out.2.trans ⟨by simp, fun j hj hn => ?_, fun j hj => Or.inl hj, Sm.refl _⟩⟩
        · rw [set_blk (i := 3) _ (set_blk (i := 2) _ G.out)]
          simp
        · intro j hj hn
          rw [Below.heap_setCell _ _ _ _ (by simp; omega), Below.heap_setCell _ _ _ _ (by simp; omega)]
        · simp
        · have hn' : j ≠ d := fun e => hn (Or.inl (by rw [e]; exact HD.out.own.1))
          rw [Below.heap_setCell _ _ _ _ (by simp; omega), Below.heap_setCell _ _ _ _ (by simp; omega)]
    · intro x o kl yd yp w2 cnt2 hkey hlk hv hat hrg2 hlt hg2 hs2 hen
      obtain ⟨x', ex, rfl, _⟩ := Maps.keyOf_str Try.underlying9 hkey
      obtain rfl := encStr_inj ex
      obtain ⟨f, hf, rfl⟩ := entry_file HT.out hv hat
      have e0 : lk (mq (trn left V k) S) x = some f := by
        rw [lk_mq, hf]
        simp [trn, hlk]
      have hax : ∀ j, Ax A w.heap.size wr j → j < wr.heap.size ∧ j ≠ w.heap.size := fun j hj => by
        rcases hj with hj | hj
        · have := HD.out.lt j hj; omega
        · omega
      have hF2 : FW w2 (lk (mq (trn left V k) S)) (Ax A w.heap.size w2) := (hF.kept (fun j hj => hg2.block j (hax j hj).1 (fun e => (hax j hj).2 (by simpa using e)))).mono (Ax.grow (by omega))
      have hK2 : KA w w2 A (Ax A w.heap.size w2) := ⟨by omega, fun j hj hn => (hg2.block j (by omega) (fun e => by have := (Option.some.inj e); omega)).trans (hK.keep j hj hn), fun j hj => by
        rcases hj with hj | hj
        · exact Or.inl hj
        · exact Or.inr (by omega), hK.sm.trans (Sm.g hg2)⟩
      have gd : w2.heap[d]? = w.heap[d]? := (hg2.block d (by omega) (fun e => by have := (Option.some.inj e); omega)).trans hd
      have gc : w2.heap[c]? = w.heap[c]? := hK2.keep c hcl hcA
      have hle := hF2.ok x f e0
      have hfl : f.b.length ≤ 16777216 := Nat.le_trans (sm_at (fun f : Fi => f.b.length) hf) (Nat.le_trans HD.out.fits HD.out.small)
      have g0 := hF2.file x f e0
      have hrow := hF2.row x f e0
      obtain ⟨a, cc, hav, _⟩ := own_src hrow
      have hgl := (Array.getElem?_eq_some_iff.1 g0).1
      have b0 : w2.cell? ⟨f.g, 0, none⟩ = some (.slice a f.b.length cc) := by rw [cell_blk g0 rfl, hav]; rfl
      have b1 : w2.cell? ⟨f.g, 1, none⟩ = some (.int .i64 (f.s : Int)) := cell_blk g0 rfl
      have d3 : w2.cell? ⟨d, 3, none⟩ = some (.pointer (some ⟨c, 0, none⟩)) := cell_blk (gd.trans HD.out.blk) rfl
      have ck : w2.cell? ⟨c, 2, none⟩ = some (.int .i64 (k : Int)) := cell_blk (gc.trans HC.out) rfl
      have hfd := hF2.off (gd.trans HD.out.blk) (by decide) (by decide) e0
      have hfc := hF2.off (gc.trans HC.out) (by decide) (by decide) e0
      have hadd : (f.s : Int) + min (k : Int) ((f.b.length : Int) - (f.s : Int)) = ((lft k f.s f.b.length : Nat) : Int) := by unfold lft; omega
      have hll := lft_le (k := k) hle.2
      have hsh := hid (shorten_any f.g f.v f.b f.s (lft k f.s f.b.length) w2.drew g0 hrow hfl hle.2 (by omega))
      have hmin : min f.s (lft k f.s f.b.length) = f.s := by unfold lft; omega
      have hS3 : ∀ w3 : World, w2.drew.grownBy w3 (some f.g) → ∀ v3 : Value, w3.heap[f.g]? = some (.cells #[v3, .int .i64 ((min f.s (lft k f.s f.b.length) : Nat) : Int)] 60 (0, 0)) → w3.cell? ⟨d, 3, none⟩ = some (.pointer (some ⟨c, 0, none⟩)) ∧ w3.cell? ⟨c, 2, none⟩ = some (.int .i64 (k : Int)) ∧ w3.cell? ⟨f.g, 1, none⟩ = some (.int .i64 (f.s : Int)) := fun w3 hg3 v3 q1 =>
        ⟨cell_blk (((hg3.block d (by show d < w2.heap.size; omega) (fun e => hfd.1 (by simpa using e.symm))).trans gd).trans HD.out.blk) rfl, cell_blk (((hg3.block c (by show c < w2.heap.size; omega) (fun e => hfc.1 (by simpa using e.symm))).trans gc).trans HC.out) rfl, (cell_blk q1 (i := 1) rfl).trans (by rw [hmin]; rfl)⟩
      have hend : ∀ (w3 : World) (a3 : Option Addr) (l3 c3 : Nat), l3 = (f.b.take (lft k f.s f.b.length)).length → w3.heap[f.g]? = some (.cells #[.slice a3 l3 c3, .int .i64 ((min f.s (lft k f.s f.b.length) : Nat) : Int)] 60 (0, 0)) → w3.ownsRow 0 5 1 (.slice a3 l3 c3) (f.b.take (lft k f.s f.b.length)).length ((f.b.take (lft k f.s f.b.length)).map (Value.int .u8)) → w2.drew.grownBy w3 (some f.g) → (∀ i, (Value.slice a3 l3 c3).ownBlock = some i → f.v.ownBlock = some i ∨ w2.drew.heap.size ≤ i) →
          ∃ (left' : Lit → Bool) (cnt' : Nat) (V' : Nm → Value), (w3.setCell ⟨f.g, 1, none⟩ (.int .i64 (l3 : Int))).ranges Try.prog 9 pR m w.heap.size S.length D left' cnt' ∧ w.heap.size < (w3.setCell ⟨f.g, 1, none⟩ (.int .i64 (l3 : Int))).heap.size ∧ FW (w3.setCell ⟨f.g, 1, none⟩ (.int .i64 (l3 : Int))) (lk (mq (trn left' V' k) S)) (Ax A w.heap.size (w3.setCell ⟨f.g, 1, none⟩ (.int .i64 (l3 : Int)))) ∧ KA w (w3.setCell ⟨f.g, 1, none⟩ (.int .i64 (l3 : Int))) A (Ax A w.heap.size (w3.setCell ⟨f.g, 1, none⟩ (.int .i64 (l3 : Int)))) ∧ (w3.setCell ⟨f.g, 1, none⟩ (.int .i64 (l3 : Int))).heap[d]? = w.heap[d]? ∧ (w3.setCell ⟨f.g, 1, none⟩ (.int .i64 (l3 : Int))).rangeLeft m w.heap.size < wr.rangeLeft m w.heap.size := fun w3 a3 l3 c3 hl3 q1 q2 q3 q4 => by
        have hl4 : l3 = lft k f.s f.b.length := by rw [hl3, List.length_take]; omega
        have hG : w2.grownBy (w3.setCell ⟨f.g, 1, none⟩ (.int .i64 (l3 : Int))) (some f.g) := set_grown (w := w2) ⟨q3.os, q3.tape, q3.output, q3.size, q3.block⟩ _ _
        have hz3 : w2.heap.size ≤ w3.heap.size := q3.size
        have hAg := (hF2.own x f e0).1
        obtain ⟨hmd, hmf⟩ := HD.out.ne
        have hmg : f.g ≠ m := (hmf x f hf).2.1
        have hrg3 := hrg2.kept hG (fun e => hmg (by simpa using e.symm)) (fun e => by
          have e' : w.heap.size = f.g := by simpa using e
          rcases hAg with h | h
          · have := HD.out.lt _ h; omega
          · omega)
        refine ⟨_, cnt2, fun m => if m = x then .slice a3 l3 c3 else V m, hrg3, by simp; omega, hF2.tear1 hf hlk _ (Ax.grow (by simp; omega)) hG ?_ ?_ (fun i hi => ?_), ?_, (hG.block d (by omega) (fun e => hfd.1 (by simpa using e.symm))).trans gd, ?_⟩
        · rw [set_blk (i := 1) _ q1, hl4]
          simp
        · refine row_kept5 q2 (fun i hi => ?_)
          obtain ⟨hi2, cs, hcs⟩ := row_lt5 q2 hi
          refine Below.heap_setCell _ _ _ _ (fun e => ?_)
          simp only at e
          rw [e, q1] at hcs
          simp at hcs
        · rcases q4 i hi with h | h
          · exact Or.inl h
          · have := (row_lt5 q2 hi).1
            have h' : w2.heap.size ≤ i := h
            exact Or.inr ⟨h, Or.inr (by simp; omega)⟩
        · refine ⟨by simp; omega, fun j hj hn => ?_, fun j hj => ?_, hK2.sm.trans (Sm.g hG)⟩
          · refine (hG.block j (by omega) (fun e => ?_)).trans (hK2.keep j hj hn)
            obtain rfl : j = f.g := by simpa using e
            rcases hAg with h | h
            · exact hn h
            · omega
          · rcases hj with hj | hj
            · exact Or.inl hj
            · exact Or.inr (by omega)
        · rw [hrg3.left_eq, hrg.left_eq]; exact hlt
      have HE := hid hend
      clear hmin
      have HS3 := hid hS3
      have hl5 : (f.b.take (lft k f.s f.b.length)).length = lft k f.s f.b.length := by rw [List.length_take]; omega
      have hw1 : IntKind.i64.wrap ((f.b.length : Int) - (f.s : Int)) = (f.b.length : Int) - (f.s : Int) := by rw [IntKind.wrap_i64]; omega
      have hw2 : IntKind.i64.wrap ((lft k f.s f.b.length : Nat) : Int) = ((lft k f.s f.b.length : Nat) : Int) := by rw [IntKind.wrap_i64]; omega
      have hw3 : (if (f.b.length : Int) - (f.s : Int) < (k : Int) then (f.b.length : Int) - (f.s : Int) else (k : Int)) = min (k : Int) ((f.b.length : Int) - (f.s : Int)) := by split <;> omega
      clear hS3
      clear hav hs2 hg2 hat hv hlk hkey ex hrg2 hrg hF hK hF2 hK2 hax e0 hd gd gc g0 hrow hf hfd hfc hend
      simp only [pvo] at hen ⊢
      go_wp2_with go_in
      have S0 : w2.drew.cell? ⟨d, 3, none⟩ = some (.pointer (some ⟨c, 0, none⟩)) ∧ w2.drew.cell? ⟨c, 2, none⟩ = some (.int .i64 (k : Int)) ∧ w2.drew.cell? ⟨f.g, 1, none⟩ = some (.int .i64 (f.s : Int)) := ⟨d3, ck, b1⟩
      refine wp_region_held_drew (S := fun w' => w'.cell? ⟨d, 3, none⟩ = some (.pointer (some ⟨c, 0, none⟩)) ∧ w'.cell? ⟨c, 2, none⟩ = some (.int .i64 (k : Int)) ∧ w'.cell? ⟨f.g, 1, none⟩ = some (.int .i64 (f.s : Int))) hmxo S0 ?_
      intro _
      refine wpAnyH_take (i := 0) (v := .pointer (some ⟨f.g, 0, none⟩)) rfl (by kernel_rfl) (by kernel_rfl) (by kernel_rfl) (fun _ _ _ h => h) (Or.inl ⟨by kernel_rfl, fun w hSw => ?_⟩) S0 ?_
      · obtain ⟨e1, e2, e3⟩ := hSw; go_simp
      simp only [Act.put, List.getElem_toArray, List.getElem_cons_succ, List.getElem_cons_zero, List.setIfInBounds_toArray, List.set_cons_zero, List.set_cons_succ]
      refine wpAnyH_take (i := 1) (v := .pointer (some ⟨f.g, 0, none⟩)) rfl (by kernel_rfl) (by kernel_rfl) (by kernel_rfl) (fun _ _ _ h => h) (Or.inl ⟨by kernel_rfl, fun w hSw => ?_⟩) S0 ?_
      · obtain ⟨e1, e2, e3⟩ := hSw; go_simp
      simp only [Act.put, List.getElem_toArray, List.getElem_cons_succ, List.getElem_cons_zero, List.setIfInBounds_toArray, List.set_cons_zero, List.set_cons_succ]
      refine wpAnyH_take (i := 2) (v := .pointer (some ⟨f.g, 0, none⟩)) rfl (by kernel_rfl) (by kernel_rfl) (by kernel_rfl) (fun _ _ _ h => h) (Or.inl ⟨by kernel_rfl, fun w hSw => ?_⟩) S0 ?_
      · obtain ⟨e1, e2, e3⟩ := hSw; go_simp
      simp only [Act.put, List.getElem_toArray, List.getElem_cons_succ, List.getElem_cons_zero, List.setIfInBounds_toArray, List.set_cons_zero, List.set_cons_succ]
      refine wpAnyH_take (i := 3) (v := .pointer (some ⟨f.g, 1, none⟩)) rfl (by kernel_rfl) (by kernel_rfl) (by kernel_rfl) (fun _ _ _ h => h) (Or.inl ⟨by kernel_rfl, fun w hSw => ?_⟩) S0 ?_
      · obtain ⟨e1, e2, e3⟩ := hSw; go_simp
      simp only [Act.put, List.getElem_toArray, List.getElem_cons_succ, List.getElem_cons_zero, List.setIfInBounds_toArray, List.set_cons_zero, List.set_cons_succ]
      refine wpAnyH_take (i := 4) (v := .int .i64 (f.s : Int)) rfl (by kernel_rfl) (by kernel_rfl) (by kernel_rfl) (fun _ _ _ h => h) (Or.inl ⟨by kernel_rfl, fun w hSw => ?_⟩) S0 ?_
      · obtain ⟨e1, e2, e3⟩ := hSw; go_simp
      simp only [Act.put, List.getElem_toArray, List.getElem_cons_succ, List.getElem_cons_zero, List.setIfInBounds_toArray, List.set_cons_zero, List.set_cons_succ]
      refine wpAnyH_take (i := 5) (v := .pointer (some ⟨d, 0, none⟩)) rfl (by kernel_rfl) (by kernel_rfl) (by kernel_rfl) (fun _ _ _ h => h) (Or.inl ⟨by kernel_rfl, fun w hSw => ?_⟩) S0 ?_
      · obtain ⟨e1, e2, e3⟩ := hSw; go_simp
      simp only [Act.put, List.getElem_toArray, List.getElem_cons_succ, List.getElem_cons_zero, List.setIfInBounds_toArray, List.set_cons_zero, List.set_cons_succ]
      refine wpAnyH_take (i := 6) (v := .pointer (some ⟨d, 0, none⟩)) rfl (by kernel_rfl) (by kernel_rfl) (by kernel_rfl) (fun _ _ _ h => h) (Or.inl ⟨by kernel_rfl, fun w hSw => ?_⟩) S0 ?_
      · obtain ⟨e1, e2, e3⟩ := hSw; go_simp
      simp only [Act.put, List.getElem_toArray, List.getElem_cons_succ, List.getElem_cons_zero, List.setIfInBounds_toArray, List.set_cons_zero, List.set_cons_succ]
      refine wpAnyH_take (i := 7) (v := .pointer (some ⟨d, 3, none⟩)) rfl (by kernel_rfl) (by kernel_rfl) (by kernel_rfl) (fun _ _ _ h => h) (Or.inl ⟨by kernel_rfl, fun w hSw => ?_⟩) S0 ?_
      · obtain ⟨e1, e2, e3⟩ := hSw; go_simp
      simp only [Act.put, List.getElem_toArray, List.getElem_cons_succ, List.getElem_cons_zero, List.setIfInBounds_toArray, List.set_cons_zero, List.set_cons_succ]
      refine wpAnyH_take (i := 8) (v := .pointer (some ⟨c, 0, none⟩)) rfl (by kernel_rfl) (by kernel_rfl) (by kernel_rfl) (fun _ _ _ h => h) (Or.inl ⟨by kernel_rfl, fun w hSw => ?_⟩) S0 ?_
      · obtain ⟨e1, e2, e3⟩ := hSw; go_simp
      simp only [Act.put, List.getElem_toArray, List.getElem_cons_succ, List.getElem_cons_zero, List.setIfInBounds_toArray, List.set_cons_zero, List.set_cons_succ]
      refine wpAnyH_take (i := 9) (v := .pointer (some ⟨c, 0, none⟩)) rfl (by kernel_rfl) (by kernel_rfl) (by kernel_rfl) (fun _ _ _ h => h) (Or.inl ⟨by kernel_rfl, fun w hSw => ?_⟩) S0 ?_
      · obtain ⟨e1, e2, e3⟩ := hSw; go_simp
      simp only [Act.put, List.getElem_toArray, List.getElem_cons_succ, List.getElem_cons_zero, List.setIfInBounds_toArray, List.set_cons_zero, List.set_cons_succ]
      refine wpAnyH_take (i := 10) (v := .pointer (some ⟨c, 2, none⟩)) rfl (by kernel_rfl) (by kernel_rfl) (by kernel_rfl) (fun _ _ _ h => h) (Or.inl ⟨by kernel_rfl, fun w hSw => ?_⟩) S0 ?_
      · obtain ⟨e1, e2, e3⟩ := hSw; go_simp
      simp only [Act.put, List.getElem_toArray, List.getElem_cons_succ, List.getElem_cons_zero, List.setIfInBounds_toArray, List.set_cons_zero, List.set_cons_succ]
      refine wpAnyH_take (i := 11) (v := .int .i64 (k : Int)) rfl (by kernel_rfl) (by kernel_rfl) (by kernel_rfl) (fun _ _ _ h => h) (Or.inl ⟨by kernel_rfl, fun w hSw => ?_⟩) S0 ?_
      · obtain ⟨e1, e2, e3⟩ := hSw; go_simp
      simp only [Act.put, List.getElem_toArray, List.getElem_cons_succ, List.getElem_cons_zero, List.setIfInBounds_toArray, List.set_cons_zero, List.set_cons_succ]
      refine wpAnyH_take (i := 12) (v := .pointer (some ⟨f.g, 0, none⟩)) rfl (by kernel_rfl) (by kernel_rfl) (by kernel_rfl) (fun _ _ _ h => h) (Or.inl ⟨by kernel_rfl, fun w hSw => ?_⟩) S0 ?_
      · obtain ⟨e1, e2, e3⟩ := hSw; go_simp
      simp only [Act.put, List.getElem_toArray, List.getElem_cons_succ, List.getElem_cons_zero, List.setIfInBounds_toArray, List.set_cons_zero, List.set_cons_succ]
      refine wpAnyH_take (i := 13) (v := .pointer (some ⟨f.g, 0, none⟩)) rfl (by kernel_rfl) (by kernel_rfl) (by kernel_rfl) (fun _ _ _ h => h) (Or.inl ⟨by kernel_rfl, fun w hSw => ?_⟩) S0 ?_
      · obtain ⟨e1, e2, e3⟩ := hSw; go_simp
      simp only [Act.put, List.getElem_toArray, List.getElem_cons_succ, List.getElem_cons_zero, List.setIfInBounds_toArray, List.set_cons_zero, List.set_cons_succ]
      refine wpAnyH_take (i := 14) (v := .pointer (some ⟨f.g, 0, none⟩)) rfl (by kernel_rfl) (by kernel_rfl) (by kernel_rfl) (fun _ _ _ h => h) (Or.inl ⟨by kernel_rfl, fun w hSw => ?_⟩) S0 ?_
      · obtain ⟨e1, e2, e3⟩ := hSw; go_simp
      simp only [Act.put, List.getElem_toArray, List.getElem_cons_succ, List.getElem_cons_zero, List.setIfInBounds_toArray, List.set_cons_zero, List.set_cons_succ]
      refine wpAnyH_take (i := 17) (v := .pointer (some ⟨f.g, 0, none⟩)) rfl (by kernel_rfl) (by kernel_rfl) (by kernel_rfl) (fun _ _ _ h => h) (Or.inl ⟨by kernel_rfl, fun w hSw => ?_⟩) S0 ?_
      · obtain ⟨e1, e2, e3⟩ := hSw; go_simp
      simp only [Act.put, List.getElem_toArray, List.getElem_cons_succ, List.getElem_cons_zero, List.setIfInBounds_toArray, List.set_cons_zero, List.set_cons_succ]
      refine wpAnyH_take (i := 18) (v := .pointer (some ⟨f.g, 0, none⟩)) rfl (by kernel_rfl) (by kernel_rfl) (by kernel_rfl) (fun _ _ _ h => h) (Or.inl ⟨by kernel_rfl, fun w hSw => ?_⟩) S0 ?_
      · obtain ⟨e1, e2, e3⟩ := hSw; go_simp
      simp only [Act.put, List.getElem_toArray, List.getElem_cons_succ, List.getElem_cons_zero, List.setIfInBounds_toArray, List.set_cons_zero, List.set_cons_succ]
      refine wpAnyH_take (i := 19) (v := .pointer (some ⟨f.g, 1, none⟩)) rfl (by kernel_rfl) (by kernel_rfl) (by kernel_rfl) (fun _ _ _ h => h) (Or.inl ⟨by kernel_rfl, fun w hSw => ?_⟩) S0 ?_
      · obtain ⟨e1, e2, e3⟩ := hSw; go_simp
      simp only [Act.put, List.getElem_toArray, List.getElem_cons_succ, List.getElem_cons_zero, List.setIfInBounds_toArray, List.set_cons_zero, List.set_cons_succ]
      refine wpAnyH_take (i := 20) (v := .int .i64 (f.s : Int)) rfl (by kernel_rfl) (by kernel_rfl) (by kernel_rfl) (fun _ _ _ h => h) (Or.inl ⟨by kernel_rfl, fun w hSw => ?_⟩) S0 ?_
      · obtain ⟨e1, e2, e3⟩ := hSw; go_simp
      simp only [Act.put, List.getElem_toArray, List.getElem_cons_succ, List.getElem_cons_zero, List.setIfInBounds_toArray, List.set_cons_zero, List.set_cons_succ]
      refine wpAnyH_ready (rs := [15]) (by kernel_rfl) (by simp) ?_
      refine AllReadyH.cons rfl (fun K hK => ?_) AllReadyH.nil
      go_simp
      refine hK.out _ _ S0 (fun _ => ?_)
      clear hK K
      try simp only [Act.put, List.getElem_toArray, List.getElem_cons_succ, List.getElem_cons_zero, List.setIfInBounds_toArray, List.set_cons_zero, List.set_cons_succ]
      refine wpAnyH_take (i := 16) (v := .int .i64 (f.b.length : Int)) rfl (by kernel_rfl) (by kernel_rfl) (by kernel_rfl) (fun _ _ _ h => h) (Or.inl ⟨by kernel_rfl, fun w hSw => ?_⟩) S0 ?_
      · obtain ⟨e1, e2, e3⟩ := hSw; go_simp
      simp only [Act.put, List.getElem_toArray, List.getElem_cons_succ, List.getElem_cons_zero, List.setIfInBounds_toArray, List.set_cons_zero, List.set_cons_succ]
      refine wpAnyH_take (i := 21) (v := .int .i64 ((f.b.length : Int) - (f.s : Int))) rfl (by kernel_rfl) (by kernel_rfl) (by kernel_rfl) (fun _ _ _ h => h) (Or.inl ⟨by kernel_rfl, fun w hSw => ?_⟩) S0 ?_
      · obtain ⟨e1, e2, e3⟩ := hSw; go_simp
      simp only [Act.put, List.getElem_toArray, List.getElem_cons_succ, List.getElem_cons_zero, List.setIfInBounds_toArray, List.set_cons_zero, List.set_cons_succ]
      refine wpAnyH_take (i := 22) (v := .int .i64 (min (k : Int) ((f.b.length : Int) - (f.s : Int)))) rfl (by kernel_rfl) (by kernel_rfl) (by kernel_rfl) (fun _ _ _ h => h) (Or.inl ⟨by kernel_rfl, fun w hSw => ?_⟩) S0 ?_
      · obtain ⟨e1, e2, e3⟩ := hSw; go_simp
      simp only [Act.put, List.getElem_toArray, List.getElem_cons_succ, List.getElem_cons_zero, List.setIfInBounds_toArray, List.set_cons_zero, List.set_cons_succ]
      refine wpAnyH_take (i := 23) (v := .int .i64 ((lft k f.s f.b.length : Nat) : Int)) rfl (by kernel_rfl) (by kernel_rfl) (by kernel_rfl) (fun _ _ _ h => h) (Or.inl ⟨by kernel_rfl, fun w hSw => ?_⟩) S0 ?_
      · obtain ⟨e1, e2, e3⟩ := hSw; go_simp
      simp only [Act.put, List.getElem_toArray, List.getElem_cons_succ, List.getElem_cons_zero, List.setIfInBounds_toArray, List.set_cons_zero, List.set_cons_succ]
      refine wpAnyH_ready (rs := [24]) (by kernel_rfl) (by simp) ?_
      refine AllReadyH.cons rfl (fun K hK => ?_) AllReadyH.nil
      go_simp
      refine hsh.out.mono ?_
      rintro e w3 ⟨rfl, v3, q1, q2, q3, q4⟩
      have S3 := HS3.out w3 q3 v3 q1
      obtain ⟨a3, cc3, hv3, _⟩ := own_src q2
      rw [hl5] at hv3
      subst hv3
      have t0 := cell_blk q1 (i := 0) rfl
      have t1 := cell_blk q1 (i := 1) rfl
      have u1 := frz_blk (i := 1) q1
      have R3 := hid (HE.out w3 a3 _ cc3 hl5.symm q1 q2 q3 q4)
      clear q1 q2 q3 q4
      refine hK.out _ _ S3 (fun _ => ?_)
      clear hK K S3
      refine wpAnyH_done (by kernel_rfl) ?_ _
      go_wp2
      obtain ⟨l', n', V', r1, r2, r3, r4, r5, r6⟩ := R3.out
      exact ⟨⟨l', n', V', r1, r2, r3, r4, r5⟩, r6⟩
end

section
set_option linter.unusedVariables false
open Go.Shelf
def Try.laysM316_ren : Go.Shelf.Ren := ⟨fun | 316 => 45 | n => n, fun | 9 => 9 | 3 => 3 | 4 => 4 | 37 => 22 | 0 => 0 | 127 => 89 | 5 => 5 | n => n, fun | n => n⟩
theorem Try.laysM316 : Go.Proofs.LaysM.n316 Try.prog Try.laysM316_ren := {
  mixed := by kernel_rfl
  f316 := Try.func45.trans (congrArg some (by kernel_rfl))
  t0 := Try.underlying0
  a0 := Try.isAgg0
  z0 := Try.sizeOf0
  v0 := Try.zeroValue0
  t3 := Try.underlying3
  a3 := Try.isAgg3
  z3 := Try.sizeOf3
  v3 := Try.zeroValue3
  t4 := Try.underlying4
  a4 := Try.isAgg4
  z4 := Try.sizeOf4
  v4 := Try.zeroValue4
  t9 := Try.underlying9
  a9 := Try.isAgg9
  z9 := Try.sizeOf9
  v9 := Try.zeroValue9
  t37 := Try.underlying22
  a37 := Try.isAgg22
  z37 := Try.sizeOf22
  v37 := Try.zeroValue22
  t127 := Try.underlying89
  a127 := Try.isAgg89
  z127 := Try.sizeOf89
  v127 := Try.zeroValue89
  t5 := Try.underlying5
  a5 := Try.isAgg5
  z5 := Try.sizeOf5
  v5 := Try.zeroValue5
  i0 := by kernel_rfl
  i3 := by kernel_rfl
  i4 := by kernel_rfl
  i5 := by kernel_rfl
  i9 := by kernel_rfl
  i37 := by kernel_rfl
  i127 := by kernel_rfl }
open Go.RowKit in
/-- internal/stringslite.Clone (what strings.Clone calls): "Clone returns a fresh copy of s.": THE SAME BYTES. Of what was there nothing has turned (a new row is laid, and frozen, where s is not empty). (LAID: no walk: one application.) -/
theorem Try.stringslite_Clone (s : ByteArray) (w : World) (hlim : s.size ≤ 281474976710656) :
    Calls Try.prog 45 #[.string s] w fun e w' => e = .returned (.string s) ∧ Below w.heap.size w w' := Any.stringslite_Clone Try.laysM316 s w hlim
end

section
set_option linter.unusedVariables false
set_option linter.unusedSimpArgs false
open Go.RowKit Go.Sort Go.Maps

set_option maxRecDepth 100000 in
set_option maxHeartbeats 4000000 in
theorem sclone_any (n : Nm) (w : World) (hn : n.length ≤ 16777216) : Calls Try.prog 31 #[encStr n] w fun e w' => e = .returned (encStr n) ∧ Below w.heap.size w w' := by
  have hc := Try.stringslite_Clone ⟨n.toArray⟩ w (by show n.toArray.size ≤ _; simp; omega)
  show Calls Try.prog _ #[.string ⟨n.toArray⟩] w _
  go_enter Try.func31, Try.ntmps31
  go_wp2_with (go_at_call 45; refine hc.mono ?_; rintro e w1 ⟨rfl, hb⟩)
  go_ret
  exact ⟨rfl, hb⟩

/-- A disk whose map tells of S, and whose files are to be S'. -/
structure DB (w : World) (d m : Nat) (cv : Value) (room : Nat) (off : Bool) (S S' : List (Nm × Fi)) (A : Nat → Prop) : Prop where
  blk : w.heap[d]? = some (.cells #[.int .i64 (room : Int), .map (some m), .bool off, cv] 54 (0, 0))
  map : MP w m S
  files : FW w (lk S') A
  ascS : Asc S
  short : S.length ≤ 1000
  few : S'.length ≤ 100
  fits : sm (fun f => f.b.length) S' ≤ room
  small : room ≤ 16777216
  nice : ∀ n f, lk S' n = some f → n.length ≤ 32
  own : A d ∧ A m
  lt : ∀ j, A j → j < w.heap.size

theorem map_ne {w : World} {m : Nat} {S : List (Nm × Fi)} (h : MP w m S) {j : Nat} {cs : Array Value} {ty : TypeId} {f : Nat × Nat} (hj : w.heap[j]? = some (.cells cs ty f)) : j ≠ m := by
  obtain ⟨D, ⟨es, clock, hm, _⟩, _⟩ := h
  intro e
  rw [e, hm] at hj
  cases hj

/-- Where the map alone turned, the files stay. -/
theorem FW.mapped {w w' : World} {M : Nm → Option Fi} {A : Nat → Prop} (h : FW w M A) {m : Nat} {S : List (Nm × Fi)} (hm : MP w m S) (hg : w.grownBy w' (some m)) : FW w' M A :=
  h.keep2 (fun n f e => ⟨hg.block _ (Array.getElem?_eq_some_iff.1 (h.file n f e)).1 (fun e' => map_ne hm (h.file n f e) (by simpa using e')), fun i hi => by
    obtain ⟨hl, cs, hc⟩ := row_lt5 (h.row n f e) hi
    exact hg.block _ hl (fun e' => map_ne hm hc (by simpa using e'))⟩)

set_option maxRecDepth 100000 in
set_option maxHeartbeats 4000000 in
theorem name_any (d m : Nat) (cv : Value) (room : Nat) (off : Bool) (S : List (Nm × Fi)) (A : Nat → Prop) (n : Nm) (f : Fi) (w : World) (h : DB w d m cv room off S (put S n f) A) (hn : n.length ≤ 32) :
    Calls Try.prog 39 #[.pointer (some ⟨d, 0, none⟩), .pointer (some ⟨f.g, 0, none⟩), encStr n] w fun e w' => e = .returned (.tuple #[]) ∧ DA w' d m cv room off (put S n f) A ∧ KA w w' A A := by
  have c1 : w.cell? ⟨d, 1, none⟩ = some (.map (some m)) := cell_blk h.blk rfl
  have hn' : n.length ≤ maxLen := by unfold maxLen; omega
  have hcl := hid (sclone_any n w.drew (by omega))
  have hup : ∀ w1 : World, Below w.heap.size w w1 → ∃ w2, (Instr.mapUpdate 51 (.map (some m)) (encStr n) (.pointer (some ⟨f.g, 0, none⟩))).run Try.prog w1 = .ok () w2 ∧ w2.cell? ⟨d, 1, none⟩ = some (.map (some m)) ∧ DA w2 d m cv room off (put S n f) A ∧ KA w w2 A A := fun w1 hb => by
    have hm1 : MP w1 m S := h.map.same (hb.block m (h.lt m h.own.2))
    obtain ⟨w2, hr, hM, hg⟩ := hm1.ins h.ascS hn' f h.short
    have hd1 := (hb.block d (h.lt d h.own.1)).trans h.blk
    have hd2 : w2.heap[d]? = some (.cells #[.int .i64 (room : Int), .map (some m), .bool off, cv] 54 (0, 0)) := (hg.block d (Array.getElem?_eq_some_iff.1 hd1).1 (fun e => map_ne hm1 hd1 (by simpa using e))).trans hd1
    have hF1 : FW w1 (lk (put S n f)) A := h.files.kept (fun j hj => hb.block j (h.lt j hj))
    refine ⟨w2, hr, cell_blk hd2 rfl, ⟨hd2, hM, hF1.mapped hm1 hg, asc_put n f h.ascS, h.few, h.fits, h.small, h.nice, h.own, fun j hj => ?_⟩, ⟨Nat.le_trans hb.size hg.size, fun j hj hA => ?_, fun j hj => Or.inl hj, (Sm.b hb).trans (Sm.g hg)⟩⟩
    · have := h.lt j hj
      have := hb.size
      have := hg.size
      omega
    · exact (hg.block j (Nat.lt_of_lt_of_le hj hb.size) (fun e => hA (by have e' : j = m := by simpa using e
                                                                         rw [e']; exact h.own.2))).trans (hb.block j hj)
  have hmxo : Try.prog.follows .mixedOrders = true := by kernel_rfl
  have HU := hid hup
  have hdl := h.lt d h.own.1
  have S0 : w.drew.cell? ⟨d, 1, none⟩ = some (.map (some m)) := c1
  clear h hup
  go_enter Try.func39, Try.ntmps39
  go_wp2_with fail
  refine wp_region_held_drew (S := fun w' => w'.cell? ⟨d, 1, none⟩ = some (.map (some m))) hmxo S0 ?_
  intro _
  refine wpAnyH_take (i := 0) (v := .pointer (some ⟨d, 0, none⟩)) rfl (by kernel_rfl) (by kernel_rfl) (by kernel_rfl) (fun _ _ _ h => h) (Or.inl ⟨by kernel_rfl, fun w hSw => ?_⟩) S0 ?_
  · have e1 := hSw; go_simp
  simp only [Act.put, List.getElem_toArray, List.getElem_cons_succ, List.getElem_cons_zero, List.setIfInBounds_toArray, List.set_cons_zero, List.set_cons_succ]
  refine wpAnyH_take (i := 1) (v := .pointer (some ⟨d, 0, none⟩)) rfl (by kernel_rfl) (by kernel_rfl) (by kernel_rfl) (fun _ _ _ h => h) (Or.inl ⟨by kernel_rfl, fun w hSw => ?_⟩) S0 ?_
  · have e1 := hSw; go_simp
  simp only [Act.put, List.getElem_toArray, List.getElem_cons_succ, List.getElem_cons_zero, List.setIfInBounds_toArray, List.set_cons_zero, List.set_cons_succ]
  refine wpAnyH_take (i := 2) (v := .pointer (some ⟨d, 1, none⟩)) rfl (by kernel_rfl) (by kernel_rfl) (by kernel_rfl) (fun _ _ _ h => h) (Or.inl ⟨by kernel_rfl, fun w hSw => ?_⟩) S0 ?_
  · have e1 := hSw; go_simp
  simp only [Act.put, List.getElem_toArray, List.getElem_cons_succ, List.getElem_cons_zero, List.setIfInBounds_toArray, List.set_cons_zero, List.set_cons_succ]
  refine wpAnyH_take (i := 3) (v := .map (some m)) rfl (by kernel_rfl) (by kernel_rfl) (by kernel_rfl) (fun _ _ _ h => h) (Or.inl ⟨by kernel_rfl, fun w hSw => ?_⟩) S0 ?_
  · have e1 := hSw; go_simp
  simp only [Act.put, List.getElem_toArray, List.getElem_cons_succ, List.getElem_cons_zero, List.setIfInBounds_toArray, List.set_cons_zero, List.set_cons_succ]
  refine wpAnyH_take (i := 4) (v := encStr n) rfl (by kernel_rfl) (by kernel_rfl) (by kernel_rfl) (fun _ _ _ h => h) (Or.inl ⟨by kernel_rfl, fun w hSw => ?_⟩) S0 ?_
  · have e1 := hSw; go_simp
  simp only [Act.put, List.getElem_toArray, List.getElem_cons_succ, List.getElem_cons_zero, List.setIfInBounds_toArray, List.set_cons_zero, List.set_cons_succ]
  refine wpAnyH_take (i := 6) (v := .pointer (some ⟨f.g, 0, none⟩)) rfl (by kernel_rfl) (by kernel_rfl) (by kernel_rfl) (fun _ _ _ h => h) (Or.inl ⟨by kernel_rfl, fun w hSw => ?_⟩) S0 ?_
  · have e1 := hSw; go_simp
  simp only [Act.put, List.getElem_toArray, List.getElem_cons_succ, List.getElem_cons_zero, List.setIfInBounds_toArray, List.set_cons_zero, List.set_cons_succ]
  refine wpAnyH_ready (rs := [5]) (by kernel_rfl) (by simp) ?_
  refine AllReadyH.cons rfl (fun K hK => ?_) AllReadyH.nil
  go_simp
  refine hcl.out.mono ?_
  rintro e w1 ⟨rfl, hb⟩
  have S1 : w1.cell? ⟨d, 1, none⟩ = some (.map (some m)) := (hb.cell (by exact hdl)).trans S0
  obtain ⟨w2, hr2, S2, R⟩ := HU.out w1 ⟨hb.os, hb.tape, hb.output, hb.size, hb.block⟩
  have R2 := hid R
  clear R hb
  refine hK.out _ _ S1 (fun _ => ?_)
  clear hK K
  try simp only [Act.put, List.getElem_toArray, List.getElem_cons_succ, List.getElem_cons_zero, List.setIfInBounds_toArray, List.set_cons_zero, List.set_cons_succ]
  refine wpAnyH_ready (rs := [7]) (by kernel_rfl) (by simp) ?_
  refine AllReadyH.cons rfl (fun K hK => ?_) AllReadyH.nil
  go_simp
  refine hK.out _ _ S2 (fun _ => ?_)
  clear hK K
  refine wpAnyH_done (by kernel_rfl) ?_ _
  go_wp2
  all_goals go_end0
  exact ⟨rfl, R2.out⟩
end

section
set_option linter.unusedVariables false
set_option linter.unusedSimpArgs false
open Go.RowKit Go.Sort Go.Maps

/-- A new file. -/
def fNew (g : Nat) : Fi := ⟨[], 0, g, .slice none 0 0⟩

theorem len_put {α : Type} {S : List (Nm × α)} (n : Nm) (a : α) (h : Asc S) : (put S n a).length = if (lk S n).isSome = true then S.length else S.length + 1 := by
  have h1 := sm_put (fun _ : α => 1) n a h
  rw [sm_len, sm_len] at h1
  cases h2 : lk S n with
  | none => simp [h2, at_] at h1 ⊢; omega
  | some x => simp [h2, at_] at h1 ⊢; omega

theorem lk_put_eq {α : Type} (S : List (Nm × α)) (n : Nm) (a : α) : lk (put S n a) = fun m => if m = n then some a else lk S m := by
  funext m
  exact lk_put S n a m

theorem map_some (b : Nat) (W : World) : (binOp .eql 51 (.map (some b)) (.map none)).run Try.prog W = .ok (.bool false) W := by
  have hd : Op.maxDepth = (Op.maxDepth - 1) + 1 := by decide
  simp only [binOp, Op.equal]
  rw [hd]
  simp [Op.equalIn, run_underlying Try.underlying51]
theorem heap_new (w : World) (o : Obj) : (w.alloc o).heap[w.heap.size]? = some o := by
  show (w.heap.push o)[w.heap.size]? = some o
  simp

set_option maxRecDepth 100000 in
set_option maxHeartbeats 4000000 in
theorem add_any (d m : Nat) (cv : Value) (room : Nat) (off : Bool) (S : List (Nm × Fi)) (A : Nat → Prop) (n : Nm) (w : World) (h : DA w d m cv room off S A) (hn : n.length ≤ 32) (h0 : lk S n = none) (h1 : S.length < 100) :
    Calls Try.prog 27 #[.pointer (some ⟨d, 0, none⟩), encStr n] w fun e w' => e = .returned (.pointer (some ⟨w.heap.size, 0, none⟩)) ∧ DA w' d m cv room off (put S n (fNew w.heap.size)) (fun j => A j ∨ j = w.heap.size) ∧ KA w w' A (fun j => A j ∨ j = w.heap.size) := by
  have c1 : w.cell? ⟨d, 1, none⟩ = some (.map (some m)) := cell_blk h.blk rfl
  have hb : Below w.heap.size w (w.alloc (.cells #[.slice none 0 0, .int .i64 0] 60)) := (Below.refl _ w).alloc (Nat.le_refl _) _
  have hD : DA (w.alloc (.cells #[.slice none 0 0, .int .i64 0] 60)) d m cv room off S A := h.below hb
  have hg : (w.alloc (.cells #[.slice none 0 0, .int .i64 0] 60)).heap[w.heap.size]? = some (.cells #[.slice none 0 0, .int .i64 0] 60 (0, 0)) := heap_new w _
  have hF : FW (w.alloc (.cells #[.slice none 0 0, .int .i64 0] 60)) (lk (put S n (fNew w.heap.size))) (fun j => A j ∨ j = w.heap.size) := by
    rw [lk_put_eq]
    refine hD.files.upd n (fNew w.heap.size) (fun j hj => Or.inl hj) hg (World.ownsRow_nil _ _ _ _) ⟨Or.inr rfl, fun k hk => by cases hk⟩ ⟨Bts.nil, Nat.le_refl _⟩ (fun k f' hk e => ⟨rfl, fun e' => ?_, fun i hi => ⟨rfl, fun e' => by cases e'⟩⟩)
    have := h.lt _ (h.files.own k f' e).1
    have e'' : f'.g = w.heap.size := e'
    omega
  have hB : DB (w.alloc (.cells #[.slice none 0 0, .int .i64 0] 60)) d m cv room off S (put S n (fNew w.heap.size)) (fun j => A j ∨ j = w.heap.size) := by
    refine ⟨hD.blk, hD.map, hF, h.asc, by have := h.few; omega, by rw [len_put n _ h.asc, h0]; simp; omega, ?_, h.small, fun k f e => ?_, ⟨Or.inl h.own.1, Or.inl h.own.2⟩, fun j hj => ?_⟩
    · have := sm_put (fun f : Fi => f.b.length) n (fNew w.heap.size) h.asc
      have e0 : (fNew w.heap.size).b.length = 0 := rfl
      have := h.fits
      omega
    · rw [lk_put] at e
      split at e
      · rename_i e'
        rw [e']; exact hn
      · exact h.nice k f e
    · rcases hj with hj | hj
      · have := hD.lt j hj
        exact this
      · simp; omega
  have hnm := hid (name_any d m cv room off S _ n (fNew w.heap.size) _ hB hn)
  have HB := hid hb
  have hmz := fun w => map_some m w
  clear h hD hg hF hB hb
  go_enter Try.func27, Try.ntmps27
  go_wp2_with (go_at_call 39; refine hnm.out.mono ?_; rintro e w1 ⟨rfl, R⟩; have R1 := hid R; clear R)
  go_ret
  refine ⟨rfl, R1.out.1, ⟨Nat.le_trans HB.out.size R1.out.2.size, fun j hj hA => (R1.out.2.keep j (Nat.lt_of_lt_of_le hj HB.out.size) (fun e => ?_)).trans (HB.out.block j hj), fun j hj => hj.imp id (fun e => by omega), (Sm.b HB.out).trans R1.out.2.sm⟩⟩
  rcases e with e | e
  · exact hA e
  · omega
end

section
set_option linter.unusedVariables false
set_option linter.unusedSimpArgs false
open Go.RowKit Go.Sort Go.Maps

theorem MP.regive {w : World} {m : Nat} {S : List (Nm × Fi)} (h : MP w m S) (hA : Asc S) {n : Nm} {f f' : Fi} (hf : lk S n = some f) (hg : f'.g = f.g) : MP w m (put S n f') := by
  obtain ⟨D, ho, hT⟩ := h
  refine ⟨D, by rw [len_put n f' hA, hf]; simpa using ho, fun k => ?_⟩
  rw [lk_put]
  by_cases e : k = n
  · subst e
    rw [if_pos rfl]
    refine ⟨by rw [(hT k).1, hf]; rfl, ?_⟩
    rw [(hT k).2, hf]
    simp [hg]
  · rw [if_neg e]
    exact hT k

/-- One's own, and what is new. -/
def An (A : Nat → Prop) (w w' : World) : Nat → Prop := fun j => A j ∨ (w.heap.size ≤ j ∧ j < w'.heap.size)

theorem DA.upd {w w' : World} {d m : Nat} {cv : Value} {room : Nat} {off : Bool} {S : List (Nm × Fi)} {A : Nat → Prop} (h : DA w d m cv room off S A) {n : Nm} {f : Fi} (hf : lk S n = some f) (f' : Fi) (hg : f'.g = f.g) (hz : w.heap.size ≤ w'.heap.size)
    (hk : ∀ j, j < w.heap.size → j ≠ f.g → f.v.ownBlock ≠ some j → w'.heap[j]? = w.heap[j]?) (hfl : w'.heap[f'.g]? = some (.cells #[f'.v, .int .i64 (f'.s : Int)] 60 (0, 0))) (hr : w'.ownsRow 0 5 1 f'.v f'.b.length (f'.b.map (Value.int .u8)))
    (ho : ∀ i, f'.v.ownBlock = some i → f.v.ownBlock = some i ∨ w.heap.size ≤ i) (hb : Bts f'.b ∧ f'.s ≤ f'.b.length) (hsum : sm (fun f => f.b.length) S + f'.b.length ≤ room + f.b.length) (hsm : Sm w w') : DA w' d m cv room off (put S n f') (An A w w') ∧ KA w w' A (An A w w') := by
  obtain ⟨hne, hfi⟩ := h.ne
  have hof := hfi n f hf
  have hAf := h.files.own n f hf
  have hd' : w'.heap[d]? = w.heap[d]? := hk d (h.lt d h.own.1) (Ne.symm hof.1) hof.2.2.1
  have hm' : w'.heap[m]? = w.heap[m]? := hk m (h.lt m h.own.2) (Ne.symm hof.2.1) hof.2.2.2.1
  refine ⟨⟨hd'.trans h.blk, (h.map.same hm').regive h.asc hf hg, ?_, asc_put n f' h.asc, by rw [len_put n f' h.asc, hf]; simpa using h.few, ?_, h.small, fun k x e => ?_, ⟨Or.inl h.own.1, Or.inl h.own.2⟩, fun j hj => ?_⟩, ⟨hz, fun j hj hA => hk j hj (fun e => hA (by rw [e]; exact hAf.1)) (fun e => hA (hAf.2 j e)), fun j hj => hj.imp id (fun e => e.1), hsm⟩⟩
  · rw [lk_put_eq]
    refine h.files.upd n f' (fun j hj => Or.inl hj) hfl hr ⟨Or.inl (by rw [hg]; exact hAf.1), fun i hi => ?_⟩ hb (fun k f2 hkn e => ?_)
    · rcases ho i hi with h1 | h1
      · exact Or.inl (hAf.2 i h1)
      · exact Or.inr ⟨h1, (row_lt5 hr hi).1⟩
    · have hA2 := h.files.own k f2 e
      have hg2 : f2.g ≠ f.g := fun e' => hkn (h.files.apg k n f2 f e hf e')
      refine ⟨hk _ (h.lt _ hA2.1) hg2 (h.files.gv e hf), by rw [hg]; exact hg2, fun i hi => ⟨hk i (h.lt i (hA2.2 i hi)) (fun e' => h.files.gv hf e (by rw [hi, e'])) (fun e' => hkn (h.files.apv k n f2 f i e hf hi e')), fun e' => ?_⟩⟩
      rcases ho i e' with h1 | h1
      · exact hkn (h.files.apv k n f2 f i e hf hi h1)
      · have := h.lt i (hA2.2 i hi)
        omega
  · have := sm_put (fun f : Fi => f.b.length) n f' h.asc
    rw [hf] at this
    simp only [at_] at this
    omega
  · rw [lk_put] at e
    split at e
    · rename_i e'
      rw [e']; exact h.nice n f hf
    · exact h.nice k x e
  · rcases hj with hj | hj
    · have := h.lt j hj; omega
    · exact hj.2
end
end Go.Proofs.Ytegikicpffoglaa
