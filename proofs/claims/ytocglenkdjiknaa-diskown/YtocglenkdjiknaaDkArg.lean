/- Arguments that come in. -/
import Derived.Test.YtocglenkdjiknaaDkRenW
import Derived.Test.YtocglenkdjiknaaDkMay
import Derived.WalkKit
import Derived.ProofKit
import Derived.OpenShut
import Derived.ShutString
import Derived.ChangeOld
import Derived.Below
import Derived.ChangeMaps5
import Derived.Deep.Matrix
namespace Go.Proofs.Ytocglenkdjiknaa
section
set_option linter.unusedVariables false
set_option linter.unusedSimpArgs false
open Go.RowKit Go.Sort Go.Maps

/-- Bytes of one's own that may be turned: a row in a block of B. -/
def BR (w : World) (a : Option Addr) (n : Nat) (B : Nat → Prop) : Prop := 0 < n → ∃ g cur, a = some ⟨g, 0, none⟩ ∧ B g ∧ w.heap[g]? = some (.cells cur 5 (0, 0)) ∧ ∀ i, i < n → ∃ v : Int, 0 ≤ v ∧ v < 256 ∧ cur[i]? = some (.int .u8 v)

theorem BR.set {w : World} {g n i : Nat} {B : Nat → Prop} (h : BR w (some ⟨g, 0, none⟩) n B) (x : Int) (h0 : 0 ≤ x) (h1 : x < 256) (hi : i < n) : BR (w.setCell ⟨g, i, none⟩ (.int .u8 x)) (some ⟨g, 0, none⟩) n B := by
  intro hp
  obtain ⟨g', cur, e, hB, hg, hc⟩ := h hp
  obtain rfl : g = g' := by simpa using e
  refine ⟨g, _, rfl, hB, set_blk (i := i) _ hg, fun j hj => ?_⟩
  by_cases hij : i = j
  · subst hij
    obtain ⟨v, _, _, hv⟩ := hc i hj
    have hlt : i < cur.size := (Array.getElem?_eq_some_iff.1 hv).1
    exact ⟨x, h0, h1, by simp [hlt]⟩
  · obtain ⟨v, v0, v1, hv⟩ := hc j hj
    exact ⟨v, v0, v1, by rw [Array.getElem?_setIfInBounds_ne hij]; exact hv⟩

theorem own_br {w : World} {B0 c : Nat} {a : Option Addr} {L : List Int} {B : Nat → Prop} (h : w.ownsRow B0 5 1 (.slice a L.length c) L.length (L.map (Value.int .u8))) (hL : Bts L) (hB : ∀ g, a = some ⟨g, 0, none⟩ → B g) : BR w a L.length B := by
  intro hp
  rcases h.2 with ⟨e, h0⟩ | ⟨g, cap, cur, e, hb, hg, hn, hc, hs, ht⟩
  · omega
  · have e2 : a = some ⟨g, 0, none⟩ := by cases e; rfl
    refine ⟨g, cur, e2, hB g e2, hg, fun i hi => ?_⟩
    have hx : (L.map (Value.int .u8))[i]? = some (.int .u8 (L[i]'hi)) := by simp [hi]
    rw [← ht] at hx
    rw [List.getElem?_take_of_lt (by omega)] at hx
    have := hL (L[i]'hi) (List.getElem_mem hi)
    exact ⟨L[i]'hi, this.1, this.2, by rw [← hx]; simp⟩

/-- The disk in one's hands, while blocks of B are one's own. -/
def OD (w0 w : World) (d : Nat) (D : Dk) (B : Nat → Prop) : Prop := DK w d D (fun j => j < w0.heap.size ∨ B j) ∧ Below w0.heap.size w0 w
theorem OD.set {w0 w : World} {d : Nat} {D : Dk} {B : Nat → Prop} (h : OD w0 w d D B) {g : Nat} (hg : B g) (hz : w0.heap.size ≤ g) (i : Nat) (v : Value) : OD w0 (w.setCell ⟨g, i, none⟩ v) d D B :=
  ⟨h.1.same (by simp) (fun j hj hP => Below.heap_setCell _ _ _ _ (fun e => hP (Or.inr (by rw [show j = g from e]; exact hg)))), h.2.os, h.2.tape, h.2.output, by simpa using h.2.size, fun k hk => (Below.heap_setCell _ _ _ _ (by simp; omega)).trans (h.2.block k hk)⟩
theorem OD.less {w0 w : World} {d : Nat} {D : Dk} {B : Nat → Prop} (h : OD w0 w d D B) (B' : Nat → Prop) (hb : ∀ j, B' j → B j ∨ j < w0.heap.size) : OD w0 w d D B' :=
  ⟨h.1.less (fun j hj => by
    rcases hj with hj | hj
    · exact Or.inl hj
    · exact (hb j hj).symm), h.2⟩
/-- Behind what only makes memory: what is new is one's own. -/
theorem OD.more {w0 w w' : World} {d : Nat} {D : Dk} {B : Nat → Prop} (h : OD w0 w d D B) (hb : Below w.heap.size w w') (B' : Nat → Prop) (hB : ∀ j, B' j → j < w'.heap.size ∧ (j < w0.heap.size ∨ B j ∨ w.heap.size ≤ j)) : OD w0 w' d D B' :=
  ⟨(h.1.more hb).less (fun j hj => by
    rcases hj with hj | hj
    · exact Or.inl (Or.inl hj)
    · obtain ⟨h1, h2⟩ := hB j hj
      rcases h2 with h2 | h2 | h2
      · exact Or.inl (Or.inl h2)
      · exact Or.inl (Or.inr h2)
      · exact Or.inr ⟨h2, h1⟩), h.2.trans (hb.mono h.2.size)⟩
/-- Behind an operation. -/
theorem OD.op {w0 w w' : World} {d : Nat} {D D' : Dk} {B : Nat → Prop} (h : OD w0 w d D B) (q1 : DK w' d D' (fun j => j < w0.heap.size ∨ B j)) (q2 : KP w w' (fun j => j < w0.heap.size ∨ B j)) : OD w0 w' d D' B :=
  ⟨q1, ⟨q2.sm.1.trans h.2.os, q2.sm.2.1.trans h.2.tape, q2.sm.2.2.trans h.2.output, Nat.le_trans h.2.size q2.size, fun k hk => (q2.keep k (Nat.lt_of_lt_of_le hk h.2.size) (Or.inl hk)).trans (h.2.block k hk)⟩⟩

theorem own_read {w wr w3 : World} {d rc : Nat} {D : Dk} {B : Nat → Prop} {rx : Option Addr} {L : List Int} (h : OD w wr d D B) (hL : Bts L) (hr : w3.ownsRow wr.heap.size 5 1 (.slice rx L.length rc) L.length (L.map (Value.int .u8))) (hb : Below wr.heap.size wr w3) :
    (BR w3 rx L.length (fun j => ∃ g, rx = some ⟨g, 0, none⟩ ∧ j = g) ∧ OD w w3 d D (fun j => ∃ g, rx = some ⟨g, 0, none⟩ ∧ j = g)) ∧ (∀ g, rx = some ⟨g, 0, none⟩ → w.heap.size ≤ g) ∧ Src w3 rx L.length L := by
  have hg : ∀ g, rx = some ⟨g, 0, none⟩ → wr.heap.size ≤ g ∧ g < w3.heap.size := fun g e => by
    subst e
    exact ⟨(hr.lt g rfl).1, (row_lt5 (row_base hr) rfl).1⟩
  obtain ⟨a', c', e, hs, _⟩ := own_src hr
  cases e
  refine ⟨⟨own_br hr hL (fun g e => ⟨g, e, rfl⟩), h.more hb _ (fun j hj => ?_)⟩, fun g e => Nat.le_trans h.2.size (hg g e).1, hs⟩
  obtain ⟨g, e, rfl⟩ := hj
  exact ⟨(hg _ e).2, Or.inr (Or.inr (hg _ e).1)⟩

theorem set_below {w w' : World} (h : Below w.heap.size w w') {g : Nat} (hg : w.heap.size ≤ g) (i : Nat) (v : Value) : Below w.heap.size w (w'.setCell ⟨g, i, none⟩ v) := ⟨h.os, h.tape, h.output, by simpa using h.size, fun k hk => (Below.heap_setCell _ _ _ _ (by simp; omega)).trans (h.block k hk)⟩

theorem own_names {w : World} {B : Nat} {v : Value} (h : w.ownsRow B 9 1 v 1 [encStr [120]]) : ∃ g c cur, v = .slice (some ⟨g, 0, none⟩) 1 c ∧ B ≤ g ∧ w.heap[g]? = some (.cells cur 9 (0, 0)) ∧ cur[0]? = some (.string ⟨#[120]⟩) ∧ 1 ≤ c := by
  rcases h.2 with ⟨_, h0⟩ | ⟨g, cap, cur, e, hb, hg, hn, hc, hs, ht⟩
  · cases h0
  · refine ⟨g, cap, cur, e, hb, hg, ?_, hn⟩
    have : (cur.toList.take (1 * 1))[0]? = some (encStr [120]) := by rw [ht]; rfl
    rw [List.getElem?_take_of_lt (by decide)] at this
    simpa using this

theorem bits_u8 (v : Int) : 0 ≤ bits .xor .u8 v 255 ∧ bits .xor .u8 v 255 < 256 := by
  unfold bits
  rw [IntKind.wrap_u8]
  omega

def ow0 : Dk := ⟨2000, false, none, []⟩
def ow1 (L : List Int) : Dk := ⟨2000, false, none, [([120], ⟨L, 0⟩)]⟩
theorem oe1 (a : List Int) (h : a.length ≤ 1000) : operD (eApp ow0.room [120] a) ow0 = (ow1 a, 0) := by
  have := eApp_ok (room := 2000) (n := [120]) (L := a) (F := []) (by kernel_rfl) (by simp [sm]; omega) (by simp) none
  show operD (eApp 2000 [120] a) ⟨2000, false, none, []⟩ = _
  rw [operD_go, this]
  simp [lk, fz, put, ow1]
theorem oe2 (a : List Int) : readD (ow1 a) [120] = (a, 0) := by simp [readD, ow1, lk]
/-- The bytes that were put into a row of one's own, and a new disk. -/
theorem own_start {w we wm w1 : World} {d cm : Nat} {am : Option Addr} {L : List Int} {D : Dk} (hb : Below w.heap.size w we)
    (hm : wm.ownsRow 0 5 1 (.slice am (0 + L.length) cm) (0 + L.length) ([] ++ L.map (Value.int .u8)) ∧ we.grownBy wm (Value.slice none 0 0).ownBlock ∧ ((Value.slice am (0 + L.length) cm).ownBlock = (Value.slice none 0 0).ownBlock ∨ (Value.slice am (0 + L.length) cm).ownBlock = some we.heap.size)) (hb1 : Below wm.heap.size wm w1) (q1 : DK w1 d D (fun j => j < wm.heap.size)) (hL : Bts L) :
    OD w w1 d D (fun j => ∃ g, am = some ⟨g, 0, none⟩ ∧ j = g) ∧ Src w1 am L.length L ∧ (0 < L.length → ∀ ad, am = some ad → ad.block < w.heap.size ∨ ∃ g, am = some ⟨g, 0, none⟩ ∧ ad.block = g) ∧ (am = none → cm = 0) ∧ (L.length ≤ cm ∧ cm ≤ maxLen) ∧
      ∀ w2, KP w1 w2 (fun j => j < w.heap.size ∨ ∃ g, am = some ⟨g, 0, none⟩ ∧ j = g) → BR w2 am L.length (fun j => ∃ g, am = some ⟨g, 0, none⟩ ∧ j = g) ∧ ∀ g, am = some ⟨g, 0, none⟩ → w.heap.size ≤ g := by
  obtain ⟨h1, h2, h3⟩ := hm
  have h1' : wm.ownsRow 0 5 1 (.slice am L.length cm) L.length (L.map (Value.int .u8)) := by simpa using h1
  obtain ⟨a', c', e, hs, hz, hlc⟩ := own_src h1'
  cases e
  have hg : ∀ g, am = some ⟨g, 0, none⟩ → g = we.heap.size ∧ g < wm.heap.size := fun g e => by
    subst e
    rcases h3 with h | h
    · cases h
    · exact ⟨by simpa [Value.ownBlock] using h, (row_lt5 h1' rfl).1⟩
  have hwm : Below w.heap.size w wm := ⟨h2.os.trans hb.os, h2.tape.trans hb.tape, h2.output.trans hb.output, Nat.le_trans hb.size h2.size, fun k hk => (h2.block k (Nat.lt_of_lt_of_le hk hb.size) (by simp [Value.ownBlock])).trans (hb.block k hk)⟩
  refine ⟨⟨q1.less (fun j hj => ?_), hwm.trans (hb1.mono hwm.size)⟩, hs.below hb1, fun _ ad e => Or.inr ?_, hz, hlc, fun w2 k2 => ⟨?_, fun g e => by rw [(hg g e).1]; exact hb.size⟩⟩
  · rcases hj with hj | ⟨g, e, rfl⟩
    · exact Nat.lt_of_lt_of_le hj hwm.size
    · exact (hg _ e).2
  · rcases h1'.2 with ⟨e', _⟩ | ⟨g, cap, cur, e', _⟩
    · have e2 : am = none := by injection e'
      rw [e2] at e
      cases e
    · cases e'
      refine ⟨g, rfl, ?_⟩
      rw [← Option.some.inj e]
  · have hr1 : w1.ownsRow 0 5 1 (.slice am L.length cm) L.length (L.map (Value.int .u8)) := row_kept5 h1' (fun k hk => hb1.block k (row_lt5 h1' hk).1)
    refine own_br (row_kept5 hr1 (fun k hk => ?_)) hL (fun g e => ⟨g, e, rfl⟩)
    refine k2.keep k (row_lt5 hr1 hk).1 (Or.inr ⟨k, ?_, rfl⟩)
    rcases h1'.2 with ⟨e', _⟩ | ⟨g, cap, cur, e', _⟩
    · have e2 : am = none := by injection e'
      rw [e2] at hk
      simp [Value.ownBlock] at hk
    · cases e'
      have hk' : g = k := by simpa [Value.ownBlock] using hk
      rw [hk']
end

section
set_option linter.unusedVariables false
set_option linter.unusedSimpArgs false
open Go.RowKit Go.Sort Go.Maps

set_option maxRecDepth 100000 in
set_option maxHeartbeats 8000000 in
theorem own_walk0 (a0 : Option Addr) (cap0 : Nat) (L0 : List Int) (n : Nm) (w : World) (s0 : Src w a0 L0.length L0) (b0 : Bts L0) (c0 : L0.length ≤ cap0 ∧ cap0 ≤ maxLen) (z0 : a0 = none → cap0 = 0) :
    Calls Try.prog 5 #[.slice a0 L0.length cap0, encStr n] w fun e w' => e = .returned (.bool true) ∧ Below w.heap.size w w' := by
  have HS0 := hid s0
  have HL0 := hid b0
  have HB0 := hid c0
  have HZ0 := hid z0
  clear s0 b0 c0 z0
  by_cases hl0 : 1000 < L0.length
  · have e1 : decide ((1000 : Int) < (L0.length : Int)) = true := decide_eq_true (by omega)
    go_enter Try.func5, Try.ntmps5
    go_wp2_with (first
    | (go_at_call 16; (fail_if_success have := K1); refine (off_nil _).mono ?_; rintro e wx ⟨rfl, rfl⟩)
    | (go_at_call 23; (fail_if_success have := K1); refine (room_nil _).mono ?_; rintro e wx ⟨rfl, rfl⟩)
    | (go_at_call 22; (fail_if_success have := K1); refine (names_nil _).mono ?_; rintro e wx ⟨rfl, rfl⟩)
    | (go_at_call 15; (fail_if_success have := K1); refine (cut_nil _ _ _ _).mono ?_; rintro e wx ⟨rfl, rfl⟩)
    | (go_at_call 21; (fail_if_success have := K1); have hq := HBd.out; refine (shorten_nil _ _ _).mono ?_; rintro e we ⟨rfl, hb⟩; have HBe := hid (hq.trans (hb.mono hq.size)); clear hq hb)
    | (go_at_call 20; (fail_if_success have := K1); have hq := HBc.out; refine (remove_nil _ _).mono ?_; rintro e wd ⟨rfl, hb⟩; have HBd := hid (hq.trans (hb.mono hq.size)); clear hq hb)
    | (go_at_call 19; (fail_if_success have := K1); have hq := HBb.out; refine (rename_nil _ _ _).mono ?_; rintro e wc ⟨rfl, hb⟩; have HBc := hid (hq.trans (hb.mono hq.size)); clear hq hb)
    | (go_at_call 14; (fail_if_success have := K1); have hq := HBa.out; refine (sync_nil _ _).mono ?_; rintro e wb ⟨rfl, hb⟩; have HBb := hid (hq.trans (hb.mono hq.size)); clear hq hb)
    | (go_at_call 13; (fail_if_success have := K1); have hq := HB00.out; refine (append_nil _ _ _ _ _).mono ?_; rintro e wa ⟨rfl, hb⟩; have HBa := hid (hq.trans (hb.mono hq.size)); clear hq hb)
    | (go_at_call 18; (fail_if_success have := K1); refine (read_nil _ _).mono ?_; rintro e wx ⟨rfl, rfl⟩)
    | (go_at_call 17; (fail_if_success have := K1); refine (on_nil _).mono ?_; rintro e wx ⟨rfl, rfl⟩)
    | (go_at_call 8; refine (awake_any _).mono ?_; rintro e w0 ⟨rfl, hb0⟩; have HB00 := hid hb0; clear hb0))
    go_ret
    exact ⟨rfl, HBe.out⟩
  have e1 : decide ((1000 : Int) < (L0.length : Int)) = false := decide_eq_false (by omega)
  have hl0' : L0.length ≤ 1000 := by omega
  go_enter Try.func5, Try.ntmps5
  go_wp2_with (first
    | (go_at_call 13; have hq := K1.out; refine (append_any _ [120] L0 am cm _ _ _ hq.1.1 (by simp) hq.2.1 hq.2.2.1 hq.2.2.2.1 hq.2.2.2.2.1 HL0.out).mono ?_; rintro e w2 ⟨x, rfl, hx, q1, q2⟩; rw [oe1 _ hl0'] at hx q1; subst hx; have K2 := hid (And.intro (hq.1.op q1 q2) (hq.2.2.2.2.2 w2 q2)); clear hq q1 q2)
    | (go_at_call 9; refine (new_any 2000 (by omega) _).mono ?_; rintro e w1 ⟨d, rfl, hb1, q1⟩; have K1 := hid (own_start (D := ow0) HBe.out HM.out hb1 q1 HL0.out); clear hb1 q1)
    | (at_builtin; have hap := HBe.out; have hsrc := hid (HS0.out.below hap); refine wpList_plain rfl (fun K' hK' => wp_app _ _ rfl rfl (World.ownsRow_nil _ _ _ _) a0 L0.length cap0 L0 rfl hsrc.out HZ0.out (by omega) _ rfl ?_); intro am cm wm r1 r2 r3; refine hK' _ _ ?_; clear hK'; have HM := hid (And.intro r1 (And.intro r2 r3)); clear r1 r2 r3)
    | (go_at_call 16; (fail_if_success have := K1); refine (off_nil _).mono ?_; rintro e wx ⟨rfl, rfl⟩)
    | (go_at_call 23; (fail_if_success have := K1); refine (room_nil _).mono ?_; rintro e wx ⟨rfl, rfl⟩)
    | (go_at_call 22; (fail_if_success have := K1); refine (names_nil _).mono ?_; rintro e wx ⟨rfl, rfl⟩)
    | (go_at_call 15; (fail_if_success have := K1); refine (cut_nil _ _ _ _).mono ?_; rintro e wx ⟨rfl, rfl⟩)
    | (go_at_call 21; (fail_if_success have := K1); have hq := HBd.out; refine (shorten_nil _ _ _).mono ?_; rintro e we ⟨rfl, hb⟩; have HBe := hid (hq.trans (hb.mono hq.size)); clear hq hb)
    | (go_at_call 20; (fail_if_success have := K1); have hq := HBc.out; refine (remove_nil _ _).mono ?_; rintro e wd ⟨rfl, hb⟩; have HBd := hid (hq.trans (hb.mono hq.size)); clear hq hb)
    | (go_at_call 19; (fail_if_success have := K1); have hq := HBb.out; refine (rename_nil _ _ _).mono ?_; rintro e wc ⟨rfl, hb⟩; have HBc := hid (hq.trans (hb.mono hq.size)); clear hq hb)
    | (go_at_call 14; (fail_if_success have := K1); have hq := HBa.out; refine (sync_nil _ _).mono ?_; rintro e wb ⟨rfl, hb⟩; have HBb := hid (hq.trans (hb.mono hq.size)); clear hq hb)
    | (go_at_call 13; (fail_if_success have := K1); have hq := HB00.out; refine (append_nil _ _ _ _ _).mono ?_; rintro e wa ⟨rfl, hb⟩; have HBa := hid (hq.trans (hb.mono hq.size)); clear hq hb)
    | (go_at_call 18; (fail_if_success have := K1); refine (read_nil _ _).mono ?_; rintro e wx ⟨rfl, rfl⟩)
    | (go_at_call 17; (fail_if_success have := K1); refine (on_nil _).mono ?_; rintro e wx ⟨rfl, rfl⟩)
    | (go_at_call 8; refine (awake_any _).mono ?_; rintro e w0 ⟨rfl, hb0⟩; have HB00 := hid hb0; clear hb0))
  go_loopw [12] (fun v wr => ∃ k : Nat, v = .int .i64 (k : Int) ∧ k ≤ L0.length ∧ BR wr am L0.length (fun j => ∃ g, am = some ⟨g, 0, none⟩ ∧ j = g) ∧ OD w wr d (ow1 L0) (fun j => ∃ g, am = some ⟨g, 0, none⟩ ∧ j = g)) (fun v _ => L0.length - (intOf v).toNat)
  case atStart => exact ⟨0, rfl, Nat.zero_le _, K2.out.2.1, K2.out.1⟩
  case round =>
    obtain ⟨k, rfl, hk, hbr, hod⟩ := hrel
    by_cases hlt : k < L0.length
    · obtain ⟨g, cur, rfl, hB, hg, hc⟩ := hbr (by omega)
      obtain ⟨v, v0, v1, hv⟩ := hc k hlt
      have hgz := K2.out.2.2 g rfl
      have c0 : wr.cell? ⟨g, k, none⟩ = some (.int .u8 v) := cell_blk hg hv
      have f0 := frz_blk (i := k) hg
      have e5 : decide ((k : Int) < (L0.length : Int)) = true := decide_eq_true (by omega)
      have HX := hid (And.intro hbr hod)
      clear hbr hod hg hc hv
      go_wp2
      go_roundw
      case rel => exact ⟨k + 1, by go_num, by omega, HX.out.1.set _ (bits_u8 v).1 (bits_u8 v).2 hlt, HX.out.2.set ⟨g, rfl, rfl⟩ hgz _ _⟩
      case measure => simp [intOf]; omega
    · have e5 : decide ((k : Int) < (L0.length : Int)) = false := decide_eq_false (by omega)
      have HX := hid hod
      clear hbr hod
      go_wp2_with (first
    | (go_at_call 18; have hq := HX.out; refine (read_any _ [120] _ _ _ hq.1 (by simp)).mono ?_; rintro e w3 ⟨rx, rcx, x, rfl, hx, hr, hb⟩; rw [oe2] at hx hr ⊢; subst hx; have K3 := hid (own_read hq HL0.out hr hb); clear hq hb hr))
      go_loopw [15] (fun v wr => ∃ k : Nat, v = .int .i64 (k : Int) ∧ k ≤ L0.length ∧ BR wr rx L0.length (fun j => ∃ g, rx = some ⟨g, 0, none⟩ ∧ j = g) ∧ OD w wr d (ow1 L0) (fun j => ∃ g, rx = some ⟨g, 0, none⟩ ∧ j = g)) (fun v _ => L0.length - (intOf v).toNat)
      case atStart => exact ⟨0, rfl, Nat.zero_le _, K3.out.1⟩
      case round =>
        obtain ⟨k, rfl, hk, hbr, hod⟩ := hrel
        by_cases hlt : k < L0.length
        · obtain ⟨g, cur, rfl, hB, hg, hc⟩ := hbr (by omega)
          obtain ⟨v, v0, v1, hv⟩ := hc k hlt
          have hgz := K3.out.2.1 g rfl
          have c0 : wr.cell? ⟨g, k, none⟩ = some (.int .u8 v) := cell_blk hg hv
          have f0 := frz_blk (i := k) hg
          have e6 : decide ((k : Int) < (L0.length : Int)) = true := decide_eq_true (by omega)
          have HX := hid (And.intro hbr hod)
          clear hbr hod hg hc hv
          go_wp2
          go_roundw
          case rel => exact ⟨k + 1, by go_num, by omega, HX.out.1.set _ (bits_u8 v).1 (bits_u8 v).2 hlt, HX.out.2.set ⟨g, rfl, rfl⟩ hgz _ _⟩
          case measure => simp [intOf]; omega
        · have e6 : decide ((k : Int) < (L0.length : Int)) = false := decide_eq_false (by omega)
          have HY := hid hod
          clear hbr hod
          go_wp2_with (first
    | (go_at_call 22; have hq := K5.out; have h5 := hq.1.set (g := g5) rfl hq.2.2.2 0 (.string ⟨#[121]⟩); have B5 := set_below hq.2.1 hq.2.2.1 0 (.string ⟨#[121]⟩); refine (names_any _ _ _ _ h5.1).mono ?_; rintro e w6 ⟨v6, rfl, hr, hb⟩; obtain ⟨g6, c6, cur6, rfl, hb6, hg6, hv6, hc6⟩ := own_names hr; have n6 : w6.cell? ⟨g6, 0, none⟩ = some (.string ⟨#[120]⟩) := cell_blk hg6 hv6; have K6 := hid (h5.more hb (fun _ => False) (fun j hj => hj.elim)); have cy := conv_src (HS4.out.below (bnext B5 hb)) rcy; have cb := conv_src (HS0.out.below K6.out.2) cap0; clear hq hb hr hg6 hv6 h5 B5)
    | (go_at_call 22; have hq := K4.out; refine (names_any _ _ _ _ hq.1).mono ?_; rintro e w5 ⟨v5, rfl, hr, hb⟩; obtain ⟨g5, c5, cur5, rfl, hb5, hg5, hv5, hc5⟩ := own_names hr; have n0 : w5.cell? ⟨g5, 0, none⟩ = some (.string ⟨#[120]⟩) := cell_blk hg5 hv5; have f5 := frz_blk (i := 0) hg5; have K5 := hid (And.intro (hq.more hb (fun j => j = g5) (fun j hj => by rw [hj]; exact ⟨(Array.getElem?_eq_some_iff.1 hg5).1, Or.inr (Or.inr hb5)⟩)) (And.intro hb (And.intro hb5 (Nat.le_trans hq.2.size hb5)))); clear hq hb hr hg5 hv5)
    | (go_at_call 18; have hq := HY.out; refine (read_any _ [120] _ _ _ hq.1 (by simp)).mono ?_; rintro e w4 ⟨ry, rcy, x, rfl, hx, hr, hb⟩; rw [oe2] at hx hr ⊢; subst hx; have R4 := (own_read hq HL0.out hr hb); have K4 := hid (R4.1.2.less (fun _ => False) (fun j hj => hj.elim)); have HS4 := hid R4.2.2; clear hq hb hr R4))
          go_ret
          exact ⟨by simp, K6.out.2⟩

theorem str_enc (s : ByteArray) : (Value.string s) = encStr s.data.toList := by
  cases s
  simp [encStr]
theorem own_walk {w : World} (a0 : Option Addr) (len0 cap0 : Nat) (z0 : List Int) (h0 : IsRow .u8 w a0 len0 cap0 z0) (s : ByteArray) :
    Calls Try.prog 5 #[.slice a0 len0 cap0, .string s] w fun e w' => e = .returned (.bool true) ∧ Below w.heap.size w w' := by
  obtain ⟨s0, b0, c0, d0⟩ := h0.src
  have n0 := row_none h0
  obtain ⟨L0, hL0⟩ : ∃ L, L = z0.take len0 := ⟨_, rfl⟩
  rw [← hL0] at s0 b0
  clear hL0 h0
  obtain rfl : len0 = L0.length := s0.1.symm
  rw [str_enc]
  exact own_walk0 a0 cap0 L0 _ w s0 b0 ⟨c0, by unfold maxLen; omega⟩ n0
end

section
set_option linter.unusedVariables false
open Go.RowKit
open Go.ChangeShapes Go.WideShapes Go.ChangeAt

theorem open_byt {H : Type} {enc : TypeId × Value → H} {W : World} {a : Option Addr} {len cap : Nat} {d : DataW H} {p : List MemPlace} (h : DataW.Trod enc Try.prog W 0 (fun _ => true) true 31 (.slice a len cap) d p) : ∃ zs, IsRow .u8 W a len cap zs := by
  obtain ⟨fuel, hf⟩ := h
  rcases open_ints Try.underlying31 Try.underlying5 (by kernel_rfl) hf with ⟨hcs, _⟩ | ⟨x, l, c, zs, hcs, _, hl, hm, hz, _, hcell, hwz⟩
  · simp [Value.cells] at hcs
    obtain ⟨rfl, rfl, rfl⟩ := hcs
    exact ⟨[], .inl ⟨rfl, rfl, rfl, rfl⟩⟩
  · simp [Value.cells] at hcs
    obtain ⟨rfl, rfl, rfl⟩ := hcs
    exact ⟨zs, .inr ⟨_, rfl, hl, hm, by simpa using hz, hcell, hwz⟩⟩
end
end Go.Proofs.Ytocglenkdjiknaa
