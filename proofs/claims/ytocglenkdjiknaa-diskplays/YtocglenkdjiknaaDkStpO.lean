/- step: what its arms want. -/
import Derived.Test.YtocglenkdjiknaaDkRefQ
import Derived.Test.YtocglenkdjiknaaDkRefB
set_option linter.unusedVariables false
set_option linter.unusedSimpArgs false
namespace Go.Proofs.Ytocglenkdjiknaa
open Go.RowKit
set_option linter.unusedSectionVars false

/-- What a step tells. -/
def StepOk (s : Sep) (d : Nat) (w : World) (e : Ending) (w' : World) : Prop := ∃ v D s2, e = .returned (.tuple #[v, .bool true]) ∧ DK w' d D (PS s2 w') ∧ RDk s2 w' v D ∧ KP w w' (PS s w) ∧ ∀ j, j < w.heap.size → s.Q j → s2.Q j

theorem below3 (w : World) (a b c : Obj) : Below w.heap.size w (((w.alloc a).alloc b).alloc c) := (((Below.refl _ w).alloc (Nat.le_refl _) _).alloc (by simp) _).alloc (by simp <;> omega) _
theorem sets7_size (w : World) (g : Nat) (v0 v1 v2 v3 v4 v5 v6 : Value) : (sets7 w g v0 v1 v2 v3 v4 v5 v6).heap.size = w.heap.size := by simp [sets7]
theorem DK.set7 {s : Sep} {w : World} {d : Nat} {D : Dk} (h : DK w d D (PS s w)) {g : Nat} (hg : PS s w g) (v0 v1 v2 v3 v4 v5 v6 : Value) : DK (sets7 w g v0 v1 v2 v3 v4 v5 v6) d D (PS s (sets7 w g v0 v1 v2 v3 v4 v5 v6)) := by
  refine (h.same (by rw [sets7_size]; exact Nat.le_refl _) (fun j hj hP => sets7_far w g v0 v1 v2 v3 v4 v5 v6 j (fun e => hP (e ▸ hg)))).less (fun j hj => ?_)
  unfold PS at hj ⊢
  rw [sets7_size] at hj
  exact hj
theorem DK.dr {s : Sep} {w : World} {d : Nat} {D : Dk} (h : DK w d D (PS s w)) : DK w.drew d D (PS s w.drew) := h.ps2 (bdrew (Below.refl _ _))
theorem RDk.mk7 {s : Sep} {w : World} {a : Option Addr} {c : Nat} {R : List (Nm × RFi)} {D : Dk} {due : Bool} {o p k : Int} (hf : FR s w (.slice a (List.length R) c) R) (hm : mp RFi.fl R = D.F) (hu : DU due o p k D.due) : RDk s w (.agg #[.slice a (List.length R) c, .int .i64 (D.room : Int), .bool D.off, .bool due, .int .i64 o, .int .i64 p, .int .i64 k]) D := ⟨a, c, R, due, o, p, k, rfl, hf, hm, hu⟩
theorem RDk.set7 {s : Sep} {w : World} {v : Value} {D : Dk} (h : RDk s w v D) {g : Nat} {sl : Option Addr} {l c : Nat} {i1 i4 i5 i6 : Int} {b2 b3 : Bool} {ty : TypeId} {f : Nat × Nat} (hx : w.heap[g]? = some (.cells #[.slice sl l c, .int .i64 i1, .bool b2, .bool b3, .int .i64 i4, .int .i64 i5, .int .i64 i6] ty f)) (v0 v1 v2 v3 v4 v5 v6 : Value) : RDk s (sets7 w g v0 v1 v2 v3 v4 v5 v6) v D := by
  obtain ⟨a', c', R, due, o, p, q, e, hf, r⟩ := h
  exact ⟨a', c', R, due, o, p, q, e, @FR.kept s _ _ _ _ hf g (@FR.far7 s _ _ _ hf _ _ _ _ _ _ _ _ _ _ _ _ hx) (fun j hj => sets7_far w g v0 v1 v2 v3 v4 v5 v6 j hj) (by rw [sets7_size]; exact Nat.le_refl _), r⟩
theorem sm_set (w : World) (a : Addr) (v : Value) : Sm w (w.setCell a v) := by
  unfold World.setCell
  split <;> exact ⟨rfl, rfl, rfl⟩
theorem sm7 (w : World) (g : Nat) (v0 v1 v2 v3 v4 v5 v6 : Value) : Sm w (sets7 w g v0 v1 v2 v3 v4 v5 v6) := by
  unfold sets7
  exact (((((((sm_set w _ _).trans (sm_set _ _ _)).trans (sm_set _ _ _)).trans (sm_set _ _ _)).trans (sm_set _ _ _)).trans (sm_set _ _ _)).trans (sm_set _ _ _))
theorem kp_set {w : World} {n : Nat} {P : Nat → Prop} (hP : ∀ j, P j → j < n) {g : Nat} (hg : n ≤ g) (v0 v1 v2 v3 v4 v5 v6 : Value) : KP w (sets7 w g v0 v1 v2 v3 v4 v5 v6) P := ⟨by rw [sets7_size]; exact Nat.le_refl _, fun j _ hj => sets7_far w g v0 v1 v2 v3 v4 v5 v6 j (fun e => by have := hP j hj; omega), sm7 w g v0 v1 v2 v3 v4 v5 v6⟩
theorem kp_a {s : Sep} {w w3 w4 w5 : World} (h3 : Below w.heap.size w w3) (h4 : KP w3 w4 (PS s w3)) (h5 : Below w4.heap.size w4 w5) {g : Nat} (hg : w.heap.size ≤ g) (v0 v1 v2 v3 v4 v5 v6 : Value) : KP w (sets7 w5 g v0 v1 v2 v3 v4 v5 v6) (PS s w) :=
  (((KP.below h3).trans (h4.less (fun j hj => ⟨hj.1, Nat.lt_of_lt_of_le hj.2 h3.size⟩))).trans (KP.below h5)).trans (kp_set (fun j hj => hj.2) hg v0 v1 v2 v3 v4 v5 v6)
theorem kp_b {s : Sep} {w w6 w8 : World} (h6 : KP w w6 (PS s w)) (h8 : Below w6.heap.size w6 w8) {g : Nat} (hg : w.heap.size ≤ g) (v0 v1 v2 v3 v4 v5 v6 : Value) : KP w (sets7 w8 g v0 v1 v2 v3 v4 v5 v6) (PS s w) :=
  (h6.trans (KP.below h8)).trans (kp_set (fun j hj => hj.2) hg v0 v1 v2 v3 v4 v5 v6)
theorem src_kp2 {w w' : World} {P : Nat → Prop} {a : Option Addr} {L : List Int} (k : KP w w' P) (hP : 0 < L.length → ∀ ad, a = some ad → P ad.block) (h : Src w a L.length L) : Src w' a L.length L := by
  refine ⟨h.1, fun hp => ?_⟩
  obtain ⟨ad, e, hc⟩ := h.2 hp
  have hb := src_block h ad hp e
  have hk := k.keep ad.block hb (hP hp ad e)
  refine ⟨ad, e, fun j u hj => ?_⟩
  rw [← hc j u hj]
  have eb : (ad.add j).block = ad.block := by
    unfold Addr.add
    split <;> rfl
  simp only [World.cell?, eb, hk]

section
variable {sp : Sep}
theorem rdo_sync_s (n : ByteArray) (v : Value) (D : Dk) (w : World) (h : RDk sp w v D) (hG : Good D) (hn : n.size ≤ maxLen) : Calls Try.prog 26 #[v, .int .i64 1, .string n, .string ⟨#[]⟩, .slice none 0 0, .int .i64 0] w (RTold sp (eSync n.data.toList) D w) := by
  have := rdo_sync n.data.toList [] none 0 0 0 v D w h hG ⟨sl n hn, by simp, Nat.le_refl _, by simp⟩
  rw [← bs_of] at this
  exact this
theorem rdo_rem_s (n : ByteArray) (v : Value) (D : Dk) (w : World) (h : RDk sp w v D) (hG : Good D) (hn : n.size ≤ maxLen) : Calls Try.prog 26 #[v, .int .i64 3, .string n, .string ⟨#[]⟩, .slice none 0 0, .int .i64 0] w (RTold sp (eRem n.data.toList) D w) := by
  have := rdo_rem n.data.toList [] none 0 0 0 v D w h hG ⟨sl n hn, by simp, Nat.le_refl _, by simp⟩
  rw [← bs_of] at this
  exact this
theorem rdo_ren_s (n t : ByteArray) (v : Value) (D : Dk) (w : World) (h : RDk sp w v D) (hG : Good D) (hn : n.size ≤ maxLen) (ht : t.size ≤ maxLen) : Calls Try.prog 26 #[v, .int .i64 2, .string n, .string t, .slice none 0 0, .int .i64 0] w (RTold sp (eRen n.data.toList t.data.toList) D w) := by
  have := rdo_ren n.data.toList t.data.toList none 0 0 0 v D w h hG ⟨sl n hn, sl t ht, Nat.le_refl _, by simp⟩
  rw [← bs_of, ← bs_of] at this
  exact this
theorem rdo_sho_s (n : ByteArray) (z : Int) (v : Value) (D : Dk) (w : World) (h : RDk sp w v D) (hG : Good D) (hn : n.size ≤ maxLen) (hz : z ≤ 9223372036854775807) : Calls Try.prog 26 #[v, .int .i64 4, .string n, .string ⟨#[]⟩, .slice none 0 0, .int .i64 z] w (RTold sp (eSho n.data.toList z) D w) := by
  have := rdo_sho n.data.toList [] none 0 0 z v D w h hG ⟨sl n hn, by simp, Nat.le_refl _, by simp⟩ hz
  rw [← bs_of] at this
  exact this
theorem rdo_app_s (n : ByteArray) (ao : Option Addr) (cc : Nat) (L : List Int) (v : Value) (D : Dk) (w : World) (h : RDk sp w v D) (hG : Good D) (hn : n.size ≤ maxLen) (hlc : L.length ≤ cc ∧ cc ≤ maxLen) (hs : Src w ao L.length L) (hao : ao = none → cc = 0) : Calls Try.prog 26 #[v, .int .i64 0, .string n, .string ⟨#[]⟩, .slice ao L.length cc, .int .i64 0] w (RTold sp (eApp D.room n.data.toList L) D w) := by
  have := rdo_app n.data.toList [] ao cc 0 L v D w h hG ⟨sl n hn, by simp, hlc.1, hlc.2⟩ hs hao
  rw [← bs_of] at this
  exact this
end
end Go.Proofs.Ytocglenkdjiknaa
