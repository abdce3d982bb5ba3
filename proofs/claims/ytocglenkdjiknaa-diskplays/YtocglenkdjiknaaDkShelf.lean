/- The contracts of the library at this program, laid by the tool of the shelf in plain words. -/
import Derived.Test.YtocglenkdjiknaaDkState
import Derived.Deep.RegionHeld
import Derived.Shelf.LaysM
import Derived.Shelf.Strconv.Clone
import Derived.Ground.SlgmProg
import Derived.Shelf.SortM.Plain
import Derived.Shelf.SortM.SortNone
import Derived.Shelf.SlIter.Nil
import Derived.Ground.GgzProg
import Derived.Test.YtocglenkdjiknaaProg
namespace Go.Proofs.Ytocglenkdjiknaa
section
set_option linter.unusedVariables false
set_option linter.unusedSimpArgs false
open Go.RowKit Go.Sort Go.Maps

theorem Ax.grow {A : Nat → Prop} {r : Nat} {w w' : World} (h : w.heap.size ≤ w'.heap.size) : ∀ j, Ax A r w j → Ax A r w' j := fun j hj => hj.imp id (fun ⟨h1, h2⟩ => ⟨h1, by omega⟩)

theorem FW.tear1 {w w' : World} {left : Lit → Bool} {V : Nm → Value} {k : Nat} {S : List (Nm × Fi)} {A A' : Nat → Prop} (h : FW w (lk (mq (trn left V k) S)) A) {n : Nm} {f : Fi} (hf : lk S n = some f) (hl : left (.string n) = true) (v' : Value) (hA : ∀ j, A j → A' j)
    (hg : w.grownBy w' (some f.g)) (hfl : w'.heap[f.g]? = some (.cells #[v', .int .i64 (lft k f.s f.b.length : Int)] 68 (0, 0)))
    (hr : w'.ownsRow 0 5 1 v' (f.b.take (lft k f.s f.b.length)).length ((f.b.take (lft k f.s f.b.length)).map (Value.int .u8)))
    (ho : ∀ i, v'.ownBlock = some i → f.v.ownBlock = some i ∨ (w.heap.size ≤ i ∧ A' i)) :
    FW w' (lk (mq (trn (fun z => left z && !z.sameKey (.string n)) (fun m => if m = n then v' else V m) k) S)) A' := by
  rw [tear_step left V k S hf v']
  have e0 : lk (mq (trn left V k) S) n = some f := by
    rw [lk_mq, hf]
    simp [trn, hl]
  have hlt : ∀ m f', lk (mq (trn left V k) S) m = some f' → f'.g < w.heap.size ∧ ∀ i, f'.v.ownBlock = some i → i < w.heap.size := fun m f' e => ⟨(Array.getElem?_eq_some_iff.1 (h.file m f' e)).1, fun i hi => (row_lt5 (h.row m f' e) hi).1⟩
  refine h.upd n (f.torn k v') hA hfl hr ⟨hA _ (h.own n f e0).1, fun i hi => ?_⟩ ⟨fun x hx => (h.ok n f e0).1 x (List.mem_of_mem_take hx), ?_⟩ (fun m f' hm e => ?_)
  · rcases ho i hi with h1 | h1
    · exact hA _ ((h.own n f e0).2 i h1)
    · exact h1.2
  · show lft k f.s f.b.length ≤ (f.b.take (lft k f.s f.b.length)).length
    have := lft_le (k := k) (h.ok n f e0).2
    rw [List.length_take]
    omega
  · have hne : f'.g ≠ f.g := fun e' => hm (h.apg m n f' f e e0 e')
    refine ⟨hg.block _ (hlt m f' e).1 (fun e' => hne (by simpa using e')), hne, fun i hi => ⟨hg.block _ ((hlt m f' e).2 i hi) (fun e' => ?_), fun e' => ?_⟩⟩
    · have := h.gv e0 e
      exact this (by rw [hi, e'])
    · rcases ho i e' with h1 | h1
      · exact hm (h.apv m n f' f i e e0 hi h1)
      · have := (hlt m f' e).2 i hi
        omega

theorem FW.keep2 {w w' : World} {M : Nm → Option Fi} {A : Nat → Prop} (h : FW w M A) (hk : ∀ n f, M n = some f → w'.heap[f.g]? = w.heap[f.g]? ∧ ∀ i, f.v.ownBlock = some i → w'.heap[i]? = w.heap[i]?) : FW w' M A :=
  ⟨fun n f e => (hk n f e).1.trans (h.file n f e), fun n f e => row_kept5 (h.row n f e) (hk n f e).2, h.own, h.ok, h.apg, h.apv⟩

/-- The disk's own cells are others: its power, its cut. -/
theorem DA.cell {w w' : World} {d m : Nat} {cv : Value} {room : Nat} {off : Bool} {S : List (Nm × Fi)} {A : Nat → Prop} (h : DA w d m cv room off S A) {cv' : Value} {off' : Bool}
    (hd : w'.heap[d]? = some (.cells #[.int .i64 (room : Int), .map (some m), .bool off', cv'] 55 (0, 0))) (hk : ∀ j, j < w.heap.size → j ≠ d → w'.heap[j]? = w.heap[j]?) (hz : w.heap.size ≤ w'.heap.size) : DA w' d m cv' room off' S A := by
  obtain ⟨hne, hfi⟩ := h.ne
  refine ⟨hd, h.map.same (hk m (h.lt m h.own.2) (Ne.symm hne)), h.files.keep2 (fun n f e => ⟨hk _ (h.lt _ (h.files.own n f e).1) (hfi n f e).1, fun i hi => hk i (h.lt _ ((h.files.own n f e).2 i hi)) (fun e' => (hfi n f e).2.2.1 (by rw [hi, e']))⟩), h.asc, h.few, h.fits, h.small, h.nice, h.own, fun j hj => Nat.lt_of_lt_of_le (h.lt j hj) hz⟩

set_option maxRecDepth 100000 in
set_option maxHeartbeats 8000000 in
theorem tear_any (d m c : Nat) (room o p k : Nat) (off : Bool) (S : List (Nm × Fi)) (A : Nat → Prop) (w : World) (h : DA w d m (.pointer (some ⟨c, 0, none⟩)) room off S A)
    (hc : w.heap[c]? = some (.cells #[.int .i64 (o : Int), .int .i64 (p : Int), .int .i64 (k : Int)] 71 (0, 0))) (hcA : ¬ A c) (hk : k ≤ 9223372036854775807) :
    Calls Try.prog 46 #[.pointer (some ⟨d, 0, none⟩)] w fun e w' => e = .returned (.tuple #[]) ∧ ∃ S' A', DA w' d m (.pointer none) room true S' A' ∧ mp Fi.fl S' = mp (fun f => f.fl.torn k) S ∧ KA w w' A A' := by
  have c1 : w.cell? ⟨d, 1, none⟩ = some (.map (some m)) := cell_blk h.blk rfl
  obtain ⟨D, hown, hsz, hpm, hT⟩ := h.map.full h.asc
  have hmlt := hown.lt
  have hdl := h.lt d h.own.1
  have hcl := (Array.getElem?_eq_some_iff.1 hc).1
  have HD := hid h
  have HT := hid hT
  have HP := hid hpm
  have HC := hid hc
  have hmxo : Try.prog.follows .mixedOrders = true := by kernel_rfl
  clear h hT hpm hsz hc
  go_enter Try.func46, Try.ntmps46
  go_wp2_with (first
    | (at_range; refine wpList_range_own _ rfl _ 52 rfl 9 65 law Try.underlying52 _ m S.length _ rfl hown ?_; intro w0 hrg0 hg0 hs0)
    | go_in)
  go_frame
  go_loopw [] (fun wr => ∃ (left : Lit → Bool) (cnt : Nat) (V : Nm → Value), wr.ranges Try.prog 9 pR m w.heap.size S.length D left cnt ∧ w.heap.size < wr.heap.size ∧ FW wr (lk (mq (trn left V k) S)) (Ax A w.heap.size wr) ∧ KA w wr A (Ax A w.heap.size wr) ∧ wr.heap[d]? = w.heap[d]?) (fun wr => wr.rangeLeft m w.heap.size)
  case atStart =>
    refine ⟨_, _, fun _ => .pointer none, hrg0, by omega, ?_, ⟨by omega, fun j hj _ => hg0.block j hj (by simp), fun j hj => ?_, Sm.g hg0⟩, hg0.block d hdl (by simp)⟩
    · rw [tear_start _ _ _ _ (fun n => (HT.out n).1)]
      exact (HD.out.files.kept (fun j hj => hg0.block j (HD.out.lt j hj) (by simp))).mono (fun j hj => Or.inl hj)
    · rcases hj with hj | hj
      · exact Or.inl hj
      · exact Or.inr (by omega)
  case round =>
    obtain ⟨left, cnt, V, hrg, hz, hF, hK, hd⟩ := hrel
    go_wp2_with (first
      | (at_next; refine wpList_next_ranges _ rfl _ rfl 9 law pR encStr pvo (fun key kl hk => by obtain ⟨x, hx, _⟩ := Maps.keyOf_str Try.underlying9 hk; exact ⟨x, hx⟩) (fun v y hv => by obtain ⟨o, ho, _⟩ := pR_some hv; exact ⟨o, ho⟩) m w.heap.size S.length _ _ _ rfl hrg ?_ ?_)
      | go_in)
    · intro hc0 hl0
      have gd := hd.trans HD.out.blk
      have f2 := frz_blk (i := 2) gd
      have f3 := frz_blk (i := 3) gd
      have b2 : wr.cell? ⟨d, 2, none⟩ = some (.bool off) := cell_blk gd rfl
      have b3 : wr.cell? ⟨d, 3, none⟩ = some (.pointer (some ⟨c, 0, none⟩)) := cell_blk gd rfl
      have hdl' : d < wr.heap.size := by omega
      have hE := hid (tear_end V k S left hl0)
      have hM : MP wr m (mq (trn left V k) S) := ⟨D, by rw [len_mq]; exact hrg.owns, fun n => by
        rw [lk_mq]
        refine ⟨by rw [(HT.out n).1]; simp, ?_⟩
        rw [(HT.out n).2]
        cases lk S n with
        | none => rfl
        | some f => simp [trn_g]⟩
      have hDA : DA wr d m (.pointer (some ⟨c, 0, none⟩)) room off (mq (trn left V k) S) (Ax A w.heap.size wr) :=
        ⟨gd, hM, hF, asc_mq _ HD.out.asc, by rw [len_mq]; exact HD.out.few, Nat.le_trans (sm_mq_le _ (fun f => f.b.length) _ (fun n f => by
          unfold trn
          split
          · exact Nat.le_refl _
          · simp [Fi.torn]
            omega) S) HD.out.fits, HD.out.small, fun n f e => by
          rw [lk_mq] at e
          obtain ⟨f', e', _⟩ := Option.map_eq_some_iff.1 e
          exact HD.out.nice n f' e', ⟨Or.inl HD.out.own.1, Or.inl HD.out.own.2⟩, fun j hj => by
          rcases hj with hj | hj
          · have := HD.out.lt j hj; omega
          · exact hj.2⟩
      have HA := hid (And.intro hDA hK)
      have G := hid gd
      clear hDA hK hF hM hl0 hc0 hd gd hrg
      go_wp2
      all_goals go_end0
      all_goals
        refine ⟨rfl, mq (trn left V k) S, Ax A w.heap.size wr, HA.out.1.cell ?_ ?_ ?_, hE.out, HA.out.2.trans ⟨by simp, fun j hj hn => ?_, fun j hj => Or.inl hj, Sm.refl _⟩⟩
        · rw [set_blk (i := 3) _ (set_blk (i := 2) _ G.out)]
          simp
        · intro j hj hn
          rw [Below.heap_setCell _ _ _ _ (by simp; omega), Below.heap_setCell _ _ _ _ (by simp; omega)]
        · simp
        · have hn' : j ≠ d := fun e => hn (Or.inl (by rw [e]; exact HD.out.own.1))
          rw [Below.heap_setCell _ _ _ _ (by simp; omega), Below.heap_setCell _ _ _ _ (by simp; omega)]
    · intro x o kl yd yp w2 cnt2 hkey hlk hv hat hrg2 hlt hg2 hs2 hen
      obtain ⟨x', ex, rfl, _⟩ := Maps.keyOf_str Try.underlying9 hkey
      obtain rfl := encStr_inj ex
      obtain ⟨f, hf, rfl⟩ := entry_file HT.out hv hat
      have e0 : lk (mq (trn left V k) S) x = some f := by
        rw [lk_mq, hf]
        simp [trn, hlk]
      have hax : ∀ j, Ax A w.heap.size wr j → j < wr.heap.size ∧ j ≠ w.heap.size := fun j hj => by
        rcases hj with hj | hj
        · have := HD.out.lt j hj; omega
        · omega
      have hF2 : FW w2 (lk (mq (trn left V k) S)) (Ax A w.heap.size w2) := (hF.kept (fun j hj => hg2.block j (hax j hj).1 (fun e => (hax j hj).2 (by simpa using e)))).mono (Ax.grow (by omega))
      have hK2 : KA w w2 A (Ax A w.heap.size w2) := ⟨by omega, fun j hj hn => (hg2.block j (by omega) (fun e => by have := (Option.some.inj e); omega)).trans (hK.keep j hj hn), fun j hj => by
        rcases hj with hj | hj
        · exact Or.inl hj
        · exact Or.inr (by omega), hK.sm.trans (Sm.g hg2)⟩
      have gd : w2.heap[d]? = w.heap[d]? := (hg2.block d (by omega) (fun e => by have := (Option.some.inj e); omega)).trans hd
      have gc : w2.heap[c]? = w.heap[c]? := hK2.keep c hcl hcA
      have hle := hF2.ok x f e0
      have hfl : f.b.length ≤ 1000000 := Nat.le_trans (sm_at (fun f : Fi => f.b.length) hf) (Nat.le_trans HD.out.fits HD.out.small)
      have g0 := hF2.file x f e0
      have hrow := hF2.row x f e0
      obtain ⟨a, cc, hav, _⟩ := own_src hrow
      have hgl := (Array.getElem?_eq_some_iff.1 g0).1
      have b0 : w2.cell? ⟨f.g, 0, none⟩ = some (.slice a f.b.length cc) := by rw [cell_blk g0 rfl, hav]; rfl
      have b1 : w2.cell? ⟨f.g, 1, none⟩ = some (.int .i64 (f.s : Int)) := cell_blk g0 rfl
      have d3 : w2.cell? ⟨d, 3, none⟩ = some (.pointer (some ⟨c, 0, none⟩)) := cell_blk (gd.trans HD.out.blk) rfl
      have ck : w2.cell? ⟨c, 2, none⟩ = some (.int .i64 (k : Int)) := cell_blk (gc.trans HC.out) rfl
      have hfd := hF2.off (gd.trans HD.out.blk) (by decide) (by decide) e0
      have hfc := hF2.off (gc.trans HC.out) (by decide) (by decide) e0
      have hadd : (f.s : Int) + min (k : Int) ((f.b.length : Int) - (f.s : Int)) = ((lft k f.s f.b.length : Nat) : Int) := by unfold lft; omega
      have hll := lft_le (k := k) hle.2
      have hsh := hid (shorten_any f.g f.v f.b f.s (lft k f.s f.b.length) w2.drew g0 hrow hfl hle.2 (by omega))
      have hmin : min f.s (lft k f.s f.b.length) = f.s := by unfold lft; omega
      have hS3 : ∀ w3 : World, w2.drew.grownBy w3 (some f.g) → ∀ v3 : Value, w3.heap[f.g]? = some (.cells #[v3, .int .i64 ((min f.s (lft k f.s f.b.length) : Nat) : Int)] 68 (0, 0)) → w3.cell? ⟨d, 3, none⟩ = some (.pointer (some ⟨c, 0, none⟩)) ∧ w3.cell? ⟨c, 2, none⟩ = some (.int .i64 (k : Int)) ∧ w3.cell? ⟨f.g, 1, none⟩ = some (.int .i64 (f.s : Int)) := fun w3 hg3 v3 q1 =>
        ⟨cell_blk (((hg3.block d (by show d < w2.heap.size; omega) (fun e => hfd.1 (by simpa using e.symm))).trans gd).trans HD.out.blk) rfl, cell_blk (((hg3.block c (by show c < w2.heap.size; omega) (fun e => hfc.1 (by simpa using e.symm))).trans gc).trans HC.out) rfl, (cell_blk q1 (i := 1) rfl).trans (by rw [hmin]; rfl)⟩
      have hend : ∀ (w3 : World) (a3 : Option Addr) (l3 c3 : Nat), l3 = (f.b.take (lft k f.s f.b.length)).length → w3.heap[f.g]? = some (.cells #[.slice a3 l3 c3, .int .i64 ((min f.s (lft k f.s f.b.length) : Nat) : Int)] 68 (0, 0)) → w3.ownsRow 0 5 1 (.slice a3 l3 c3) (f.b.take (lft k f.s f.b.length)).length ((f.b.take (lft k f.s f.b.length)).map (Value.int .u8)) → w2.drew.grownBy w3 (some f.g) → (∀ i, (Value.slice a3 l3 c3).ownBlock = some i → f.v.ownBlock = some i ∨ w2.drew.heap.size ≤ i) →
          ∃ (left' : Lit → Bool) (cnt' : Nat) (V' : Nm → Value), (w3.setCell ⟨f.g, 1, none⟩ (.int .i64 (l3 : Int))).ranges Try.prog 9 pR m w.heap.size S.length D left' cnt' ∧ w.heap.size < (w3.setCell ⟨f.g, 1, none⟩ (.int .i64 (l3 : Int))).heap.size ∧ FW (w3.setCell ⟨f.g, 1, none⟩ (.int .i64 (l3 : Int))) (lk (mq (trn left' V' k) S)) (Ax A w.heap.size (w3.setCell ⟨f.g, 1, none⟩ (.int .i64 (l3 : Int)))) ∧ KA w (w3.setCell ⟨f.g, 1, none⟩ (.int .i64 (l3 : Int))) A (Ax A w.heap.size (w3.setCell ⟨f.g, 1, none⟩ (.int .i64 (l3 : Int)))) ∧ (w3.setCell ⟨f.g, 1, none⟩ (.int .i64 (l3 : Int))).heap[d]? = w.heap[d]? ∧ (w3.setCell ⟨f.g, 1, none⟩ (.int .i64 (l3 : Int))).rangeLeft m w.heap.size < wr.rangeLeft m w.heap.size := fun w3 a3 l3 c3 hl3 q1 q2 q3 q4 => by
        have hl4 : l3 = lft k f.s f.b.length := by rw [hl3, List.length_take]; omega
        have hG : w2.grownBy (w3.setCell ⟨f.g, 1, none⟩ (.int .i64 (l3 : Int))) (some f.g) := set_grown (w := w2) ⟨q3.os, q3.tape, q3.output, q3.size, q3.block⟩ _ _
        have hz3 : w2.heap.size ≤ w3.heap.size := q3.size
        have hAg := (hF2.own x f e0).1
        obtain ⟨hmd, hmf⟩ := HD.out.ne
        have hmg : f.g ≠ m := (hmf x f hf).2.1
        have hrg3 := hrg2.kept hG (fun e => hmg (by simpa using e.symm)) (fun e => by
          have e' : w.heap.size = f.g := by simpa using e
          rcases hAg with h | h
          · have := HD.out.lt _ h; omega
          · omega)
        refine ⟨_, cnt2, fun m => if m = x then .slice a3 l3 c3 else V m, hrg3, by simp; omega, hF2.tear1 hf hlk _ (Ax.grow (by simp; omega)) hG ?_ ?_ (fun i hi => ?_), ?_, (hG.block d (by omega) (fun e => hfd.1 (by simpa using e.symm))).trans gd, ?_⟩
        · rw [set_blk (i := 1) _ q1, hl4]
          simp
        · refine row_kept5 q2 (fun i hi => ?_)
          obtain ⟨hi2, cs, hcs⟩ := row_lt5 q2 hi
          refine Below.heap_setCell _ _ _ _ (fun e => ?_)
          simp only at e
          rw [e, q1] at hcs
          simp at hcs
        · rcases q4 i hi with h | h
          · exact Or.inl h
          · have := (row_lt5 q2 hi).1
            have h' : w2.heap.size ≤ i := h
            exact Or.inr ⟨h, Or.inr (by simp; omega)⟩
        · refine ⟨by simp; omega, fun j hj hn => ?_, fun j hj => ?_, hK2.sm.trans (Sm.g hG)⟩
          · refine (hG.block j (by omega) (fun e => ?_)).trans (hK2.keep j hj hn)
            obtain rfl : j = f.g := by simpa using e
            rcases hAg with h | h
            · exact hn h
            · omega
          · rcases hj with hj | hj
            · exact Or.inl hj
            · exact Or.inr (by omega)
        · rw [hrg3.left_eq, hrg.left_eq]; exact hlt
      have HE := hid hend
      clear hmin
      have HS3 := hid hS3
      have hl5 : (f.b.take (lft k f.s f.b.length)).length = lft k f.s f.b.length := by rw [List.length_take]; omega
      have hw1 : IntKind.i64.wrap ((f.b.length : Int) - (f.s : Int)) = (f.b.length : Int) - (f.s : Int) := by rw [IntKind.wrap_i64]; omega
      have hw2 : IntKind.i64.wrap ((lft k f.s f.b.length : Nat) : Int) = ((lft k f.s f.b.length : Nat) : Int) := by rw [IntKind.wrap_i64]; omega
      have hw3 : (if (f.b.length : Int) - (f.s : Int) < (k : Int) then (f.b.length : Int) - (f.s : Int) else (k : Int)) = min (k : Int) ((f.b.length : Int) - (f.s : Int)) := by split <;> omega
      clear hS3
      clear hav hs2 hg2 hat hv hlk hkey ex hrg2 hrg hF hK hF2 hK2 hax e0 hd gd gc g0 hrow hf hfd hfc hend
      simp only [pvo] at hen ⊢
      go_wp2_with go_in
      have S0 : w2.drew.cell? ⟨d, 3, none⟩ = some (.pointer (some ⟨c, 0, none⟩)) ∧ w2.drew.cell? ⟨c, 2, none⟩ = some (.int .i64 (k : Int)) ∧ w2.drew.cell? ⟨f.g, 1, none⟩ = some (.int .i64 (f.s : Int)) := ⟨d3, ck, b1⟩
      refine wp_region_held_drew (S := fun w' => w'.cell? ⟨d, 3, none⟩ = some (.pointer (some ⟨c, 0, none⟩)) ∧ w'.cell? ⟨c, 2, none⟩ = some (.int .i64 (k : Int)) ∧ w'.cell? ⟨f.g, 1, none⟩ = some (.int .i64 (f.s : Int))) hmxo S0 ?_
      intro _
      refine wpAnyH_take (i := 0) (v := .pointer (some ⟨f.g, 0, none⟩)) rfl (by kernel_rfl) (by kernel_rfl) (by kernel_rfl) (fun _ _ _ h => h) (Or.inl ⟨by kernel_rfl, fun w hSw => ?_⟩) S0 ?_
      · obtain ⟨e1, e2, e3⟩ := hSw; go_simp
      simp only [Act.put, List.getElem_toArray, List.getElem_cons_succ, List.getElem_cons_zero, List.setIfInBounds_toArray, List.set_cons_zero, List.set_cons_succ]
      refine wpAnyH_take (i := 1) (v := .pointer (some ⟨f.g, 0, none⟩)) rfl (by kernel_rfl) (by kernel_rfl) (by kernel_rfl) (fun _ _ _ h => h) (Or.inl ⟨by kernel_rfl, fun w hSw => ?_⟩) S0 ?_
      · obtain ⟨e1, e2, e3⟩ := hSw; go_simp
      simp only [Act.put, List.getElem_toArray, List.getElem_cons_succ, List.getElem_cons_zero, List.setIfInBounds_toArray, List.set_cons_zero, List.set_cons_succ]
      refine wpAnyH_take (i := 2) (v := .pointer (some ⟨f.g, 0, none⟩)) rfl (by kernel_rfl) (by kernel_rfl) (by kernel_rfl) (fun _ _ _ h => h) (Or.inl ⟨by kernel_rfl, fun w hSw => ?_⟩) S0 ?_
      · obtain ⟨e1, e2, e3⟩ := hSw; go_simp
      simp only [Act.put, List.getElem_toArray, List.getElem_cons_succ, List.getElem_cons_zero, List.setIfInBounds_toArray, List.set_cons_zero, List.set_cons_succ]
      refine wpAnyH_take (i := 3) (v := .pointer (some ⟨f.g, 1, none⟩)) rfl (by kernel_rfl) (by kernel_rfl) (by kernel_rfl) (fun _ _ _ h => h) (Or.inl ⟨by kernel_rfl, fun w hSw => ?_⟩) S0 ?_
      · obtain ⟨e1, e2, e3⟩ := hSw; go_simp
      simp only [Act.put, List.getElem_toArray, List.getElem_cons_succ, List.getElem_cons_zero, List.setIfInBounds_toArray, List.set_cons_zero, List.set_cons_succ]
      refine wpAnyH_take (i := 4) (v := .int .i64 (f.s : Int)) rfl (by kernel_rfl) (by kernel_rfl) (by kernel_rfl) (fun _ _ _ h => h) (Or.inl ⟨by kernel_rfl, fun w hSw => ?_⟩) S0 ?_
      · obtain ⟨e1, e2, e3⟩ := hSw; go_simp
      simp only [Act.put, List.getElem_toArray, List.getElem_cons_succ, List.getElem_cons_zero, List.setIfInBounds_toArray, List.set_cons_zero, List.set_cons_succ]
      refine wpAnyH_take (i := 5) (v := .pointer (some ⟨d, 0, none⟩)) rfl (by kernel_rfl) (by kernel_rfl) (by kernel_rfl) (fun _ _ _ h => h) (Or.inl ⟨by kernel_rfl, fun w hSw => ?_⟩) S0 ?_
      · obtain ⟨e1, e2, e3⟩ := hSw; go_simp
      simp only [Act.put, List.getElem_toArray, List.getElem_cons_succ, List.getElem_cons_zero, List.setIfInBounds_toArray, List.set_cons_zero, List.set_cons_succ]
      refine wpAnyH_take (i := 6) (v := .pointer (some ⟨d, 0, none⟩)) rfl (by kernel_rfl) (by kernel_rfl) (by kernel_rfl) (fun _ _ _ h => h) (Or.inl ⟨by kernel_rfl, fun w hSw => ?_⟩) S0 ?_
      · obtain ⟨e1, e2, e3⟩ := hSw; go_simp
      simp only [Act.put, List.getElem_toArray, List.getElem_cons_succ, List.getElem_cons_zero, List.setIfInBounds_toArray, List.set_cons_zero, List.set_cons_succ]
      refine wpAnyH_take (i := 7) (v := .pointer (some ⟨d, 3, none⟩)) rfl (by kernel_rfl) (by kernel_rfl) (by kernel_rfl) (fun _ _ _ h => h) (Or.inl ⟨by kernel_rfl, fun w hSw => ?_⟩) S0 ?_
      · obtain ⟨e1, e2, e3⟩ := hSw; go_simp
      simp only [Act.put, List.getElem_toArray, List.getElem_cons_succ, List.getElem_cons_zero, List.setIfInBounds_toArray, List.set_cons_zero, List.set_cons_succ]
      refine wpAnyH_take (i := 8) (v := .pointer (some ⟨c, 0, none⟩)) rfl (by kernel_rfl) (by kernel_rfl) (by kernel_rfl) (fun _ _ _ h => h) (Or.inl ⟨by kernel_rfl, fun w hSw => ?_⟩) S0 ?_
      · obtain ⟨e1, e2, e3⟩ := hSw; go_simp
      simp only [Act.put, List.getElem_toArray, List.getElem_cons_succ, List.getElem_cons_zero, List.setIfInBounds_toArray, List.set_cons_zero, List.set_cons_succ]
      refine wpAnyH_take (i := 9) (v := .pointer (some ⟨c, 0, none⟩)) rfl (by kernel_rfl) (by kernel_rfl) (by kernel_rfl) (fun _ _ _ h => h) (Or.inl ⟨by kernel_rfl, fun w hSw => ?_⟩) S0 ?_
      · obtain ⟨e1, e2, e3⟩ := hSw; go_simp
      simp only [Act.put, List.getElem_toArray, List.getElem_cons_succ, List.getElem_cons_zero, List.setIfInBounds_toArray, List.set_cons_zero, List.set_cons_succ]
      refine wpAnyH_take (i := 10) (v := .pointer (some ⟨c, 2, none⟩)) rfl (by kernel_rfl) (by kernel_rfl) (by kernel_rfl) (fun _ _ _ h => h) (Or.inl ⟨by kernel_rfl, fun w hSw => ?_⟩) S0 ?_
      · obtain ⟨e1, e2, e3⟩ := hSw; go_simp
      simp only [Act.put, List.getElem_toArray, List.getElem_cons_succ, List.getElem_cons_zero, List.setIfInBounds_toArray, List.set_cons_zero, List.set_cons_succ]
      refine wpAnyH_take (i := 11) (v := .int .i64 (k : Int)) rfl (by kernel_rfl) (by kernel_rfl) (by kernel_rfl) (fun _ _ _ h => h) (Or.inl ⟨by kernel_rfl, fun w hSw => ?_⟩) S0 ?_
      · obtain ⟨e1, e2, e3⟩ := hSw; go_simp
      simp only [Act.put, List.getElem_toArray, List.getElem_cons_succ, List.getElem_cons_zero, List.setIfInBounds_toArray, List.set_cons_zero, List.set_cons_succ]
      refine wpAnyH_take (i := 12) (v := .pointer (some ⟨f.g, 0, none⟩)) rfl (by kernel_rfl) (by kernel_rfl) (by kernel_rfl) (fun _ _ _ h => h) (Or.inl ⟨by kernel_rfl, fun w hSw => ?_⟩) S0 ?_
      · obtain ⟨e1, e2, e3⟩ := hSw; go_simp
      simp only [Act.put, List.getElem_toArray, List.getElem_cons_succ, List.getElem_cons_zero, List.setIfInBounds_toArray, List.set_cons_zero, List.set_cons_succ]
      refine wpAnyH_take (i := 13) (v := .pointer (some ⟨f.g, 0, none⟩)) rfl (by kernel_rfl) (by kernel_rfl) (by kernel_rfl) (fun _ _ _ h => h) (Or.inl ⟨by kernel_rfl, fun w hSw => ?_⟩) S0 ?_
      · obtain ⟨e1, e2, e3⟩ := hSw; go_simp
      simp only [Act.put, List.getElem_toArray, List.getElem_cons_succ, List.getElem_cons_zero, List.setIfInBounds_toArray, List.set_cons_zero, List.set_cons_succ]
      refine wpAnyH_take (i := 14) (v := .pointer (some ⟨f.g, 0, none⟩)) rfl (by kernel_rfl) (by kernel_rfl) (by kernel_rfl) (fun _ _ _ h => h) (Or.inl ⟨by kernel_rfl, fun w hSw => ?_⟩) S0 ?_
      · obtain ⟨e1, e2, e3⟩ := hSw; go_simp
      simp only [Act.put, List.getElem_toArray, List.getElem_cons_succ, List.getElem_cons_zero, List.setIfInBounds_toArray, List.set_cons_zero, List.set_cons_succ]
      refine wpAnyH_take (i := 17) (v := .pointer (some ⟨f.g, 0, none⟩)) rfl (by kernel_rfl) (by kernel_rfl) (by kernel_rfl) (fun _ _ _ h => h) (Or.inl ⟨by kernel_rfl, fun w hSw => ?_⟩) S0 ?_
      · obtain ⟨e1, e2, e3⟩ := hSw; go_simp
      simp only [Act.put, List.getElem_toArray, List.getElem_cons_succ, List.getElem_cons_zero, List.setIfInBounds_toArray, List.set_cons_zero, List.set_cons_succ]
      refine wpAnyH_take (i := 18) (v := .pointer (some ⟨f.g, 0, none⟩)) rfl (by kernel_rfl) (by kernel_rfl) (by kernel_rfl) (fun _ _ _ h => h) (Or.inl ⟨by kernel_rfl, fun w hSw => ?_⟩) S0 ?_
      · obtain ⟨e1, e2, e3⟩ := hSw; go_simp
      simp only [Act.put, List.getElem_toArray, List.getElem_cons_succ, List.getElem_cons_zero, List.setIfInBounds_toArray, List.set_cons_zero, List.set_cons_succ]
      refine wpAnyH_take (i := 19) (v := .pointer (some ⟨f.g, 1, none⟩)) rfl (by kernel_rfl) (by kernel_rfl) (by kernel_rfl) (fun _ _ _ h => h) (Or.inl ⟨by kernel_rfl, fun w hSw => ?_⟩) S0 ?_
      · obtain ⟨e1, e2, e3⟩ := hSw; go_simp
      simp only [Act.put, List.getElem_toArray, List.getElem_cons_succ, List.getElem_cons_zero, List.setIfInBounds_toArray, List.set_cons_zero, List.set_cons_succ]
      refine wpAnyH_take (i := 20) (v := .int .i64 (f.s : Int)) rfl (by kernel_rfl) (by kernel_rfl) (by kernel_rfl) (fun _ _ _ h => h) (Or.inl ⟨by kernel_rfl, fun w hSw => ?_⟩) S0 ?_
      · obtain ⟨e1, e2, e3⟩ := hSw; go_simp
      simp only [Act.put, List.getElem_toArray, List.getElem_cons_succ, List.getElem_cons_zero, List.setIfInBounds_toArray, List.set_cons_zero, List.set_cons_succ]
      refine wpAnyH_ready (rs := [15]) (by kernel_rfl) (by simp) ?_
      refine AllReadyH.cons rfl (fun K hK => ?_) AllReadyH.nil
      go_simp
      refine hK.out _ _ S0 (fun _ => ?_)
      clear hK K
      try simp only [Act.put, List.getElem_toArray, List.getElem_cons_succ, List.getElem_cons_zero, List.setIfInBounds_toArray, List.set_cons_zero, List.set_cons_succ]
      refine wpAnyH_take (i := 16) (v := .int .i64 (f.b.length : Int)) rfl (by kernel_rfl) (by kernel_rfl) (by kernel_rfl) (fun _ _ _ h => h) (Or.inl ⟨by kernel_rfl, fun w hSw => ?_⟩) S0 ?_
      · obtain ⟨e1, e2, e3⟩ := hSw; go_simp
      simp only [Act.put, List.getElem_toArray, List.getElem_cons_succ, List.getElem_cons_zero, List.setIfInBounds_toArray, List.set_cons_zero, List.set_cons_succ]
      refine wpAnyH_take (i := 21) (v := .int .i64 ((f.b.length : Int) - (f.s : Int))) rfl (by kernel_rfl) (by kernel_rfl) (by kernel_rfl) (fun _ _ _ h => h) (Or.inl ⟨by kernel_rfl, fun w hSw => ?_⟩) S0 ?_
      · obtain ⟨e1, e2, e3⟩ := hSw; go_simp
      simp only [Act.put, List.getElem_toArray, List.getElem_cons_succ, List.getElem_cons_zero, List.setIfInBounds_toArray, List.set_cons_zero, List.set_cons_succ]
      refine wpAnyH_take (i := 22) (v := .int .i64 (min (k : Int) ((f.b.length : Int) - (f.s : Int)))) rfl (by kernel_rfl) (by kernel_rfl) (by kernel_rfl) (fun _ _ _ h => h) (Or.inl ⟨by kernel_rfl, fun w hSw => ?_⟩) S0 ?_
      · obtain ⟨e1, e2, e3⟩ := hSw; go_simp
      simp only [Act.put, List.getElem_toArray, List.getElem_cons_succ, List.getElem_cons_zero, List.setIfInBounds_toArray, List.set_cons_zero, List.set_cons_succ]
      refine wpAnyH_take (i := 23) (v := .int .i64 ((lft k f.s f.b.length : Nat) : Int)) rfl (by kernel_rfl) (by kernel_rfl) (by kernel_rfl) (fun _ _ _ h => h) (Or.inl ⟨by kernel_rfl, fun w hSw => ?_⟩) S0 ?_
      · obtain ⟨e1, e2, e3⟩ := hSw; go_simp
      simp only [Act.put, List.getElem_toArray, List.getElem_cons_succ, List.getElem_cons_zero, List.setIfInBounds_toArray, List.set_cons_zero, List.set_cons_succ]
      refine wpAnyH_ready (rs := [24]) (by kernel_rfl) (by simp) ?_
      refine AllReadyH.cons rfl (fun K hK => ?_) AllReadyH.nil
      go_simp
      refine hsh.out.mono ?_
      rintro e w3 ⟨rfl, v3, q1, q2, q3, q4⟩
      have S3 := HS3.out w3 q3 v3 q1
      obtain ⟨a3, cc3, hv3, _⟩ := own_src q2
      rw [hl5] at hv3
      subst hv3
      have t0 := cell_blk q1 (i := 0) rfl
      have t1 := cell_blk q1 (i := 1) rfl
      have u1 := frz_blk (i := 1) q1
      have R3 := hid (HE.out w3 a3 _ cc3 hl5.symm q1 q2 q3 q4)
      clear q1 q2 q3 q4
      refine hK.out _ _ S3 (fun _ => ?_)
      clear hK K S3
      refine wpAnyH_done (by kernel_rfl) ?_ _
      go_wp2
      obtain ⟨l', n', V', r1, r2, r3, r4, r5, r6⟩ := R3.out
      exact ⟨⟨l', n', V', r1, r2, r3, r4, r5⟩, r6⟩
end

section
set_option linter.unusedVariables false
open Go.Shelf
def Try.laysM316_ren : Go.Shelf.Ren := ⟨fun | 316 => 55 | n => n, fun | 9 => 9 | 3 => 3 | 4 => 4 | 37 => 31 | 0 => 0 | 127 => 92 | 5 => 5 | n => n, fun | n => n⟩
theorem Try.laysM316 : Go.Proofs.LaysM.n316 Try.prog Try.laysM316_ren := {
  mixed := by kernel_rfl
  f316 := Try.func55.trans (congrArg some (by kernel_rfl))
  t0 := Try.underlying0
  a0 := Try.isAgg0
  z0 := Try.sizeOf0
  v0 := Try.zeroValue0
  t3 := Try.underlying3
  a3 := Try.isAgg3
  z3 := Try.sizeOf3
  v3 := Try.zeroValue3
  t4 := Try.underlying4
  a4 := Try.isAgg4
  z4 := Try.sizeOf4
  v4 := Try.zeroValue4
  t9 := Try.underlying9
  a9 := Try.isAgg9
  z9 := Try.sizeOf9
  v9 := Try.zeroValue9
  t37 := Try.underlying31
  a37 := Try.isAgg31
  z37 := Try.sizeOf31
  v37 := Try.zeroValue31
  t127 := Try.underlying92
  a127 := Try.isAgg92
  z127 := Try.sizeOf92
  v127 := Try.zeroValue92
  t5 := Try.underlying5
  a5 := Try.isAgg5
  z5 := Try.sizeOf5
  v5 := Try.zeroValue5
  i0 := by kernel_rfl
  i3 := by kernel_rfl
  i4 := by kernel_rfl
  i5 := by kernel_rfl
  i9 := by kernel_rfl
  i37 := by kernel_rfl
  i127 := by kernel_rfl }
open Go.RowKit in
/-- internal/stringslite.Clone (what strings.Clone calls): "Clone returns a fresh copy of s.": THE SAME BYTES. Of what was there nothing has turned (a new row is laid, and frozen, where s is not empty). (LAID: no walk: one application.) -/
theorem Try.stringslite_Clone (s : ByteArray) (w : World) (hlim : s.size ≤ 281474976710656) :
    Calls Try.prog 55 #[.string s] w fun e w' => e = .returned (.string s) ∧ Below w.heap.size w w' := Any.stringslite_Clone Try.laysM316 s w hlim
def Try.laysSlM6_f50_ren : Go.Shelf.Ren := ⟨fun | 6 => 50 | 8 => 58 | 9 => 57 | 19 => 68 | 20 => 69 | 21 => 59 | 22 => 60 | 23 => 61 | 24 => 62 | 25 => 63 | 26 => 64 | 27 => 65 | 28 => 66 | 29 => 67 | 36 => 70 | 31 => 71 | 32 => 72 | 37 => 73 | 38 => 74 | 39 => 75 | 41 => 76 | n => n, fun | 27 => 47 | 29 => 9 | 3 => 3 | 32 => 91 | 26 => 47 | 0 => 0 | 44 => 103 | 46 => 105 | 4 => 4 | 36 => 95 | 35 => 94 | 41 => 100 | 5 => 5 | 9 => 9 | 53 => 106 | 57 => 110 | 63 => 112 | 64 => 113 | n => n, fun | n => n⟩
theorem Try.laysSlM6_f50 : Go.Proofs.SlLaysM.n6 Try.prog Try.laysSlM6_f50_ren := {
  mixed := by kernel_rfl
  f6 := ⟨Try.f50.name, by decide, Try.func50.trans (congrArg some (by kernel_rfl))⟩
  f8 := Try.func58.trans (congrArg some (by kernel_rfl))
  f9 := ⟨Try.f57.name, by decide, Try.func57.trans (congrArg some (by kernel_rfl))⟩
  f19 := Try.func68.trans (congrArg some (by kernel_rfl))
  f20 := Try.func69.trans (congrArg some (by kernel_rfl))
  f21 := ⟨Try.f59.name, by decide, Try.func59.trans (congrArg some (by kernel_rfl))⟩
  f22 := ⟨Try.f60.name, by decide, Try.func60.trans (congrArg some (by kernel_rfl))⟩
  f23 := ⟨Try.f61.name, by decide, Try.func61.trans (congrArg some (by kernel_rfl))⟩
  f24 := ⟨Try.f62.name, by decide, Try.func62.trans (congrArg some (by kernel_rfl))⟩
  f25 := ⟨Try.f63.name, by decide, Try.func63.trans (congrArg some (by kernel_rfl))⟩
  f26 := ⟨Try.f64.name, by decide, Try.func64.trans (congrArg some (by kernel_rfl))⟩
  f27 := ⟨Try.f65.name, by decide, Try.func65.trans (congrArg some (by kernel_rfl))⟩
  f28 := ⟨Try.f66.name, by decide, Try.func66.trans (congrArg some (by kernel_rfl))⟩
  f29 := ⟨Try.f67.name, by decide, Try.func67.trans (congrArg some (by kernel_rfl))⟩
  f31 := Try.func71.trans (congrArg some (by kernel_rfl))
  f32 := Try.func72.trans (congrArg some (by kernel_rfl))
  f36 := ⟨Try.f70.name, by decide, Try.func70.trans (congrArg some (by kernel_rfl))⟩
  f37 := ⟨Try.f73.name, by decide, Try.func73.trans (congrArg some (by kernel_rfl))⟩
  f38 := ⟨Try.f74.name, by decide, Try.func74.trans (congrArg some (by kernel_rfl))⟩
  f39 := ⟨Try.f75.name, by decide, Try.func75.trans (congrArg some (by kernel_rfl))⟩
  f41 := ⟨Try.f76.name, by decide, Try.func76.trans (congrArg some (by kernel_rfl))⟩
  t0 := Try.underlying0
  a0 := Try.isAgg0
  z0 := Try.sizeOf0
  v0 := Try.zeroValue0
  t3 := Try.underlying3
  a3 := Try.isAgg3
  z3 := Try.sizeOf3
  v3 := Try.zeroValue3
  t4 := Try.underlying4
  a4 := Try.isAgg4
  z4 := Try.sizeOf4
  v4 := Try.zeroValue4
  t5 := Try.underlying5
  a5 := Try.isAgg5
  z5 := Try.sizeOf5
  v5 := Try.zeroValue5
  t9 := Try.underlying9
  a9 := Try.isAgg9
  z9 := Try.sizeOf9
  v9 := Try.zeroValue9
  t26 := Try.underlying47
  a26 := Try.isAgg47
  z26 := Try.sizeOf47
  v26 := Try.zeroValue47
  t27 := Try.underlying47
  a27 := Try.isAgg47
  z27 := Try.sizeOf47
  v27 := Try.zeroValue47
  t29 := Try.underlying9
  a29 := Try.isAgg9
  z29 := Try.sizeOf9
  v29 := Try.zeroValue9
  t32 := Try.underlying91
  a32 := Try.isAgg91
  z32 := Try.sizeOf91
  v32 := Try.zeroValue91
  t35 := Try.underlying94
  a35 := Try.isAgg94
  z35 := Try.sizeOf94
  v35 := Try.zeroValue94
  t36 := Try.underlying95
  a36 := Try.isAgg95
  z36 := Try.sizeOf95
  v36 := Try.zeroValue95
  t41 := Try.underlying100
  a41 := Try.isAgg100
  z41 := Try.sizeOf100
  v41 := Try.zeroValue100
  t44 := Try.underlying103
  a44 := Try.isAgg103
  z44 := Try.sizeOf103
  v44 := Try.zeroValue103
  t46 := Try.underlying105
  a46 := Try.isAgg105
  z46 := Try.sizeOf105
  v46 := Try.zeroValue105
  t53 := Try.underlying106
  a53 := Try.isAgg106
  z53 := Try.sizeOf106
  v53 := Try.zeroValue106
  t57 := Try.underlying110
  a57 := Try.isAgg110
  z57 := Try.sizeOf110
  v57 := Try.zeroValue110
  t63 := Try.underlying112
  a63 := Try.isAgg112
  z63 := Try.sizeOf112
  v63 := Try.zeroValue112
  t64 := Try.underlying113
  a64 := Try.isAgg113
  z64 := Try.sizeOf113
  v64 := Try.zeroValue113 }
open Go.Sort Go.RowKit in
theorem Try.slices_Sort_string (blk off cap : Nat) (ss : List (List UInt8)) (w : World) (hH : Holds encStr w blk off ss.toArray) (hblk : blk < w.heap.size) (hsz : ss.length < 4611686018427387904) :
    Calls Try.prog 50 #[.slice (some ⟨blk, off, none⟩) ss.length cap] w fun e w' =>
      e = .returned (.tuple #[]) ∧ ∃ n os, w' = grow (putRow encStr (Sort.ahead w n) blk off (ss.mergeSort fun x y => decide (x ≤ y)).toArray) os := AnyM.slices_Sort_string Try.laysSlM6_f50 blk off cap ss w hH hblk hsz
open Go.RowKit Go.Sort in
/-- .. and plain. (LAID AT THE INSTANCE 'slices.Sort[[]string,string]': no walk: one application.) -/
theorem Try.slices_Sort_string_none (p : Option Addr) (cap : Nat) (w : World) :
    Calls Try.prog 50 #[.slice p 0 cap] w fun e w' => e = .returned (.tuple #[]) ∧ w' = w := AnyM.slices_Sort_string_none Try.laysSlM6_f50 p cap w
def Try.keys41_ren : Go.Shelf.Ren := ⟨fun | 7 => 41 | 10 => 51 | n => n, fun | 23 => 52 | 26 => 9 | 3 => 65 | 28 => 77 | 0 => 0 | 27 => 76 | 33 => 64 | 4 => 4 | n => n, fun | n => n⟩
theorem Try.keys41 : Go.Proofs.SlLaysZ.n7 Try.prog Try.keys41_ren := {
  mixed := by kernel_rfl
  f7 := ⟨Try.f41.name, by decide, Try.func41.trans (congrArg some (by kernel_rfl))⟩
  f10 := ⟨Try.f51.name, by decide, Try.func51.trans (congrArg some (by kernel_rfl))⟩
  t0 := Try.underlying0
  a0 := Try.isAgg0
  z0 := Try.sizeOf0
  v0 := Try.zeroValue0
  t4 := Try.underlying4
  a4 := Try.isAgg4
  z4 := Try.sizeOf4
  v4 := Try.zeroValue4
  t23 := Try.underlying52
  a23 := Try.isAgg52
  z23 := Try.sizeOf52
  v23 := Try.zeroValue52
  t26 := Try.underlying9
  a26 := Try.isAgg9
  z26 := Try.sizeOf9
  v26 := Try.zeroValue9
  t27 := Try.underlying76
  a27 := Try.isAgg76
  z27 := Try.sizeOf76
  v27 := Try.zeroValue76
  t28 := Try.underlying77
  a28 := Try.isAgg77
  z28 := Try.sizeOf77
  v28 := Try.zeroValue77
  t33 := Try.underlying64
  a33 := Try.isAgg64
  z33 := Try.sizeOf64
  v33 := Try.zeroValue64 }
def Try.sorted40_ren : Go.Shelf.Ren := ⟨fun | 6 => 40 | 8 => 49 | 9 => 50 | 11 => 56 | 13 => 58 | 12 => 57 | 23 => 68 | 24 => 69 | 14 => 59 | 15 => 60 | 16 => 61 | 17 => 62 | 18 => 63 | 19 => 64 | 20 => 65 | 21 => 66 | 22 => 67 | 25 => 70 | 26 => 71 | 27 => 72 | 28 => 73 | 29 => 74 | 30 => 75 | 31 => 76 | n => n, fun | 26 => 9 | 28 => 77 | 24 => 47 | 0 => 0 | 3 => 3 | 37 => 91 | 48 => 103 | 50 => 105 | 4 => 4 | 40 => 95 | 39 => 94 | 45 => 100 | 5 => 5 | 9 => 9 | 51 => 106 | 55 => 110 | 57 => 112 | 58 => 113 | 33 => 64 | n => n, fun | n => n⟩
theorem Try.sorted40 : Go.Proofs.SlLaysZ.n6 Try.prog Try.sorted40_ren := {
  mixed := by kernel_rfl
  f6 := ⟨Try.f40.name, by decide, Try.func40.trans (congrArg some (by kernel_rfl))⟩
  f8 := ⟨Try.f49.name, by decide, Try.func49.trans (congrArg some (by kernel_rfl))⟩
  f11 := ⟨Try.f56.name, by decide, Try.func56.trans (congrArg some (by kernel_rfl))⟩
  t0 := Try.underlying0
  a0 := Try.isAgg0
  z0 := Try.sizeOf0
  v0 := Try.zeroValue0
  t24 := Try.underlying47
  a24 := Try.isAgg47
  z24 := Try.sizeOf47
  v24 := Try.zeroValue47
  t26 := Try.underlying9
  a26 := Try.isAgg9
  z26 := Try.sizeOf9
  v26 := Try.zeroValue9
  t28 := Try.underlying77
  a28 := Try.isAgg77
  z28 := Try.sizeOf77
  v28 := Try.zeroValue77
  i26 := by kernel_rfl }
def Try.sort50_ren : Go.Shelf.Ren := ⟨fun | 6 => 50 | 8 => 58 | 9 => 57 | 19 => 68 | 20 => 69 | 21 => 59 | 22 => 60 | 23 => 61 | 24 => 62 | 25 => 63 | 26 => 64 | 27 => 65 | 28 => 66 | 29 => 67 | 36 => 70 | 31 => 71 | 32 => 72 | 37 => 73 | 38 => 74 | 39 => 75 | 41 => 76 | n => n, fun | 27 => 47 | 29 => 9 | 3 => 3 | 32 => 91 | 26 => 47 | 0 => 0 | 44 => 103 | 46 => 105 | 4 => 4 | 36 => 95 | 35 => 94 | 41 => 100 | 5 => 5 | 9 => 9 | 53 => 106 | 57 => 110 | 63 => 112 | 64 => 113 | n => n, fun | n => n⟩
theorem Try.sort50 : Go.Proofs.SlLaysM.n6 Try.prog Try.sort50_ren := {
  mixed := by kernel_rfl
  f6 := ⟨Try.f50.name, by decide, Try.func50.trans (congrArg some (by kernel_rfl))⟩
  f8 := Try.func58.trans (congrArg some (by kernel_rfl))
  f9 := ⟨Try.f57.name, by decide, Try.func57.trans (congrArg some (by kernel_rfl))⟩
  f19 := Try.func68.trans (congrArg some (by kernel_rfl))
  f20 := Try.func69.trans (congrArg some (by kernel_rfl))
  f21 := ⟨Try.f59.name, by decide, Try.func59.trans (congrArg some (by kernel_rfl))⟩
  f22 := ⟨Try.f60.name, by decide, Try.func60.trans (congrArg some (by kernel_rfl))⟩
  f23 := ⟨Try.f61.name, by decide, Try.func61.trans (congrArg some (by kernel_rfl))⟩
  f24 := ⟨Try.f62.name, by decide, Try.func62.trans (congrArg some (by kernel_rfl))⟩
  f25 := ⟨Try.f63.name, by decide, Try.func63.trans (congrArg some (by kernel_rfl))⟩
  f26 := ⟨Try.f64.name, by decide, Try.func64.trans (congrArg some (by kernel_rfl))⟩
  f27 := ⟨Try.f65.name, by decide, Try.func65.trans (congrArg some (by kernel_rfl))⟩
  f28 := ⟨Try.f66.name, by decide, Try.func66.trans (congrArg some (by kernel_rfl))⟩
  f29 := ⟨Try.f67.name, by decide, Try.func67.trans (congrArg some (by kernel_rfl))⟩
  f31 := Try.func71.trans (congrArg some (by kernel_rfl))
  f32 := Try.func72.trans (congrArg some (by kernel_rfl))
  f36 := ⟨Try.f70.name, by decide, Try.func70.trans (congrArg some (by kernel_rfl))⟩
  f37 := ⟨Try.f73.name, by decide, Try.func73.trans (congrArg some (by kernel_rfl))⟩
  f38 := ⟨Try.f74.name, by decide, Try.func74.trans (congrArg some (by kernel_rfl))⟩
  f39 := ⟨Try.f75.name, by decide, Try.func75.trans (congrArg some (by kernel_rfl))⟩
  f41 := ⟨Try.f76.name, by decide, Try.func76.trans (congrArg some (by kernel_rfl))⟩
  t0 := Try.underlying0
  a0 := Try.isAgg0
  z0 := Try.sizeOf0
  v0 := Try.zeroValue0
  t3 := Try.underlying3
  a3 := Try.isAgg3
  z3 := Try.sizeOf3
  v3 := Try.zeroValue3
  t4 := Try.underlying4
  a4 := Try.isAgg4
  z4 := Try.sizeOf4
  v4 := Try.zeroValue4
  t5 := Try.underlying5
  a5 := Try.isAgg5
  z5 := Try.sizeOf5
  v5 := Try.zeroValue5
  t9 := Try.underlying9
  a9 := Try.isAgg9
  z9 := Try.sizeOf9
  v9 := Try.zeroValue9
  t26 := Try.underlying47
  a26 := Try.isAgg47
  z26 := Try.sizeOf47
  v26 := Try.zeroValue47
  t27 := Try.underlying47
  a27 := Try.isAgg47
  z27 := Try.sizeOf47
  v27 := Try.zeroValue47
  t29 := Try.underlying9
  a29 := Try.isAgg9
  z29 := Try.sizeOf9
  v29 := Try.zeroValue9
  t32 := Try.underlying91
  a32 := Try.isAgg91
  z32 := Try.sizeOf91
  v32 := Try.zeroValue91
  t35 := Try.underlying94
  a35 := Try.isAgg94
  z35 := Try.sizeOf94
  v35 := Try.zeroValue94
  t36 := Try.underlying95
  a36 := Try.isAgg95
  z36 := Try.sizeOf95
  v36 := Try.zeroValue95
  t41 := Try.underlying100
  a41 := Try.isAgg100
  z41 := Try.sizeOf100
  v41 := Try.zeroValue100
  t44 := Try.underlying103
  a44 := Try.isAgg103
  z44 := Try.sizeOf103
  v44 := Try.zeroValue103
  t46 := Try.underlying105
  a46 := Try.isAgg105
  z46 := Try.sizeOf105
  v46 := Try.zeroValue105
  t53 := Try.underlying106
  a53 := Try.isAgg106
  z53 := Try.sizeOf106
  v53 := Try.zeroValue106
  t57 := Try.underlying110
  a57 := Try.isAgg110
  z57 := Try.sizeOf110
  v57 := Try.zeroValue110
  t63 := Try.underlying112
  a63 := Try.isAgg112
  z63 := Try.sizeOf112
  v63 := Try.zeroValue112
  t64 := Try.underlying113
  a64 := Try.isAgg113
  z64 := Try.sizeOf113
  v64 := Try.zeroValue113 }
open Go.RowKit Go.Maps Go.Sort Go.Shelf


/-- slices.Sort's two contracts at this dump, at the fence that asks nothing. -/
theorem Try.sorts40 (m : Nat) : AnyZ.SortsIn Try.prog Try.sorted40_ren Fence.wide m :=
  ⟨fun blk off cap ss W hH hblk hsz => callsIn_wide.2 (AnyM.slices_Sort_string Try.sort50 blk off cap ss W hH hblk hsz),
   fun p cap W => callsIn_wide.2 (AnyM.slices_Sort_string_none Try.sort50 p cap W)⟩

/-- **maps.Keys[map[string]*osier/disk.file,string,*osier/disk.file], at whatever map, the nil one too:** a function value over ONE NEW BLOCK, which holds the map. -/
theorem Try.maps_Keys_41 (mb : Option Nat) (W : World) : CallsIn Fence.wide 5 Try.prog 41 #[.map mb] W fun e w' => e = .returned (.func (.func 51) #[] #[.pointer (some ⟨W.heap.size, 0, none⟩)]) ∧ w' = W.alloc (.cells #[.map mb] 52) :=
  AnyZ.keys_in Try.keys41 Fence.wide 5 trivial rfl mb W

set_option maxHeartbeats 1000000 in
/-- **slices.Sorted[string] AT WHAT maps.Keys[map[string]*osier/disk.file,string,*osier/disk.file] HANDED BACK FOR A MAP THAT IS NOT nil** ('w': the world AHEAD of maps.Keys' call): A NEW SLICE THAT HOLDS THE MAP's KEYS, SORTED; nil just where it has none; nothing that lay before has turned. -/
theorem Try.slices_Sorted_keys_40_41 {H : Type} (b nn : Nat) (D0 : DataW H) (R : Value → Option (DataW H × List MemPlace)) (w : World) (hown : w.ownsMap Try.prog 9 R b nn D0) (hmax : Maps.size D0 ≤ maxLen) (hbytes : Maps.size D0 * 16 ≤ 140737488355328) :
    CallsIn Fence.wide 5 Try.prog 40 #[.func (.func 51) #[] #[.pointer (some ⟨w.heap.size, 0, none⟩)]] (w.alloc (.cells #[.map (some b)] 52)) fun e w' => ∃ (v : Value) (ss : List (List UInt8)), e = .returned v ∧ ss.Perm (strKeys D0) ∧
      w'.ownsRow (w.alloc (.cells #[.map (some b)] 52)).heap.size 9 1 v ss.length ((ss.mergeSort (fun x y => decide (x ≤ y))).map encStr) ∧ (v = .slice none 0 0 ↔ ss = []) ∧ Below (w.alloc (.cells #[.map (some b)] 52)).heap.size (w.alloc (.cells #[.map (some b)] 52)) w' := by
  have hbl := hown.lt
  have hseq : SeqGives Fence.wide 2 Try.prog 51 #[.pointer (some ⟨w.heap.size, 0, none⟩)] encStr (fun ss => ss.Perm (strKeys D0)) (Maps.size D0) (w.alloc (.cells #[.map (some b)] 52)) :=
    AnyZ.keys_gives (ρ := Try.keys41_ren) { Try.keys41 with } Fence.wide _ trivial rfl (by omega) w.heap.size b nn D0 _ (by simp) (by simp) (by
      obtain ⟨es, clock, hb, Ft, hs, hD⟩ := hown
      exact ⟨es, clock, (Below.heap_alloc _ _ b hbl).trans hb, Ft, hs, hD⟩)
  exact AnyZ.sorted_in Try.sorted40 Fence.wide 5 trivial trivial trivial trivial rfl (by omega) (Try.sorts40 _) (enters_of Try.func50 (by kernel_rfl) rfl) 51 #[.pointer (some ⟨w.heap.size, 0, none⟩)] trivial (enters_of Try.func51 (by kernel_rfl) rfl) _ _ hmax hbytes _ hseq
end
end Go.Proofs.Ytocglenkdjiknaa
