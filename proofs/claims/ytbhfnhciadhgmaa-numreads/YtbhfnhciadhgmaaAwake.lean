/- The statements' own first look: a number of three bytes, one in more bytes than it needs. -/
import Derived.Test.YtbhfnhciadhgmaaEnds
import Derived.Laws.BytesArg
namespace Go.Proofs.Ytbhfnhciadhgmaa
open Go.RowKit

theorem row_lit (w : World) (C : Array Value) (L : List Int) (h : C = (L.map (Value.int .u8)).toArray) : Row (w.alloc (.cells C 5)) w.heap.size L := by
  unfold Row; subst h; exact heap_alloc_new w _

theorem rdr_new {w : World} {b z n cap : Nat} {L : List Int} (hr : Rd w b (.slice (some ⟨z, 0, none⟩) n cap) 0) (hrow : Row w z L) (hn : L.length = n) (hc : n ≤ cap) (hcap : cap ≤ 9223372036854775807) (hz : z ≠ b) (hb : Bts L) : Rdr w b z L 0 :=
  ⟨_, n, cap, hr, hrow.src n hn, hc, hcap, ⟨fun ad _ h => by simp at h; subst h; rfl, hz⟩, hb, fun h => absurd rfl h⟩

theorem new_below (w : World) (o : Obj) : Below w.heap.size w (w.alloc o) := (Below.refl _ _).alloc (Nat.le_refl _) o

/-- A reader of a slice that was written out right ahead of it. -/
theorem rdr_lit {w w2 : World} {C : Array Value} {L : List Int} {n : Nat} (hC : C = (L.map (Value.int .u8)).toArray) (hn : L.length = n) (hs : n ≤ 100) (hB : Bts L)
    (hrd : Rd w2 (w.alloc (.cells C 5)).heap.size (.slice (some ⟨w.heap.size, 0, none⟩) n n) 0) (hb : Below (w.alloc (.cells C 5)).heap.size (w.alloc (.cells C 5)) w2) :
    Rdr w2 (w.heap.size + 1) w.heap.size L 0 ∧ Below w.heap.size w w2 ∧ w.heap.size + 1 < w2.heap.size := by
  have hrow := (row_lit w C L hC).below hb
  have hsz : (w.alloc (.cells C 5)).heap.size = w.heap.size + 1 := World.size_alloc _ _
  rw [hsz] at hrd
  refine ⟨rdr_new hrd hrow hn (Nat.le_refl _) (by omega) (by omega) hB, (new_below w _).trans (hb.mono (by rw [hsz]; omega)), hrd.lt⟩

theorem conv_row {w : World} {g : Nat} {L : List Int} (h : Row w g L) (n cap : Nat) (hn : L.length = n) : (convert 22 9 (.slice (some ⟨g, 0, none⟩) n cap)).run Try.prog w = .ok (.string (strOfNums L)) w :=
  run_convert_bytes_arg (P := Try.prog) w 22 5 Try.underlying22 Try.underlying5 g 0 n cap L hn (fun i hi => by
    rw [Nat.zero_add, h.cell i (by omega)]; simp [show i < L.length by omega]) 9 Try.underlying9

theorem rleft_any (w : World) (b z : Nat) (L : List Int) (e : Int) (h : Rdr w b z L e) :
    Calls Try.prog 27 #[.pointer (some ⟨b, 0, none⟩)] w fun r w' => r = .returned (.int .i64 L.length) ∧ w = w' := by
  obtain ⟨a, len, cap, hr, hs, _⟩ := h
  have := left_any w b a len cap e hr
  rw [← hs.1] at this
  exact this

set_option maxHeartbeats 1000000 in
theorem awake_any (w : World) : Calls Try.prog 9 #[] w fun e w' => e = .returned (.bool true) ∧ Below w.heap.size w w' := by
  have hr0 := row_lit w #[.int .u8 7] [7] rfl
  have hs0 := hr0.src 1 rfl
  go_enter Try.func9, Try.ntmps9
  go_wp2_with (first
    | (go_at_call 10; refine (uint_any _ 1 1 16384 [7] _ hs0 (by omega) (by omega) (by omega)).mono ?_; rintro e w1 ⟨he, hr1, hb1⟩; rw [show 1 + sz 16384 = 4 from by decide] at he; subst he)
    | (go_at_call 16; have hq := hrd2; refine (read_any _ _ _ _ _ rfl).mono ?_; rintro e w3 ⟨rfl, hrd3, hb3⟩)
    | (go_at_call 16; refine (read_any _ _ _ _ _ rfl).mono ?_; rintro e w2 ⟨rfl, hrd2, hb2⟩))
  have F1 := rdr_lit (L := [128, 5]) rfl rfl (by decide) (by simp [Bts]) hrd2 hb2
  have F2 := rdr_lit (L := [128, 128, 1]) rfl rfl (by decide) (by simp [Bts]) hrd3 hb3
  have G1 := F1.1.below F2.2.1
  have hsz1 : (w.alloc (Obj.cells #[Value.int IntKind.u8 7] 5)).heap.size = w.heap.size + 1 := World.size_alloc _ _
  have G0 := (hr1.below F1.2.1).below F2.2.1
  rw [hsz1] at G0
  have hl1 := hr1.lt
  rw [hsz1] at hl1
  have B3 : Below w.heap.size w w3 := ((new_below w _).trans (hb1.mono (by rw [hsz1]; omega))).trans ((F1.2.1.mono (by omega)).trans (F2.2.1.mono (by have := F1.2.2; omega)))
  have S1 := F1.2.2
  have S2 := F2.2.2
  have G2 := F2.1
  clear F1 F2 hrd2 hb2 hrd3 hb3 hr1 hb1 hsz1 hr0 hs0
  have U1 := ruint_any _ _ _ _ _ G1
  rw [show dec [128, 5] 0 = (0, [], 11) from by decide] at U1
  refine U1.mono ?_
  clear U1
  rintro e w4 ⟨rfl, K1, o4⟩
  have K2 := G2.only o4 (by omega) (by omega)
  have K0 := G0.only o4 (by omega)
  have U2 := rint_any _ _ _ _ _ K2
  rw [show dec [128, 128, 1] 0 = (128, [1], 0) from by decide] at U2
  simp only [show dint 128 = 64 from by decide] at U2 K1
  clear G1 G2 G0
  go_wp2_with (first
    | (go_at_call 19; refine U2.mono ?_; rintro e w5 ⟨rfl, M2, o5⟩; have M1 := K1.only o5 (by omega) (by omega); have M0 := conv_row (K0.only o5 (by omega)) 4 4 rfl; have E1 := end_nil _ _ _ _ M1; have E2 := end_left _ _ _ _ _ M2 (by decide); have E3 := rleft_any _ _ _ _ _ M2; rw [show strOfNums ([7] ++ enc 16384) = ⟨#[7, 192, 64, 0]⟩ from by decide] at M0)
    | (go_at_call 29; have hq := hl; refine E2.mono ?_; rintro e w7 ⟨rfl, M7, o7⟩)
    | (go_at_call 29; refine E1.mono ?_; rintro e w6 ⟨rfl, rfl⟩)
    | (go_at_call 27; refine E3.mono ?_; rintro e w6 ⟨rfl, rfl⟩; have hl := True.intro))
  go_ret
  exact ⟨rfl, B3.trans ((o4.below (by omega)).trans ((o5.below (by omega)).trans (o7.below (by omega))))⟩
end Go.Proofs.Ytbhfnhciadhgmaa
