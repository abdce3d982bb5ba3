/- put: a move is put into the log. -/
import Derived.Test.YtnmdcdphpcpojaaGreatDoorTrPutG
set_option linter.unusedVariables false
set_option linter.unusedSimpArgs false
namespace Go.Proofs.YtnmdcdphpcpojaaGreatDoor
open Go.RowKit

/-- What the first steps come to. -/
theorem TR.puts {w : World} {t : Nat} {l : List Mv} {k : Nat} {gs : List Nat} {S : List Sp} {lg pl kd : Value} {fl : List (Mv × Nat)} {B A : Nat → Prop} {fm : Nat} (h : TR w t l k gs S lg (.map (some fm)) pl kd fl B A) {m : Mv} {ge : Nat} (hE : EN w ge m false pl0) (hf : ∀ x ∈ l, x.id ≠ m.id) (hfl : ∀ x ∈ fl, x.1.id ≠ m.id) (hd : Dw m.id) (hs : fl.length ≤ 1000) :
    ∃ W2, (Instr.mapUpdate 132 (.map (some fm)) (dv m.id) (pvF ge)).run Tryz.prog w.drew = .ok () W2 ∧ (W2.cell? ⟨t, 1, none⟩ = some (.map (some fm)) ∧ W2.cell? ⟨ge, 0, none⟩ = some (.int .i64 m.id.1) ∧ W2.cell? ⟨ge, 1, none⟩ = some (.int .i64 m.id.2)) ∧ W2.cell? ⟨t, 0, none⟩ = some lg ∧
      Calls Tryz.prog 97 #[lg, pvF ge, .func (.func 98) #[] #[]] W2 fun e w' => e = .returned (.tuple #[.int .i64 (rkL mvl l m : Nat), .bool false]) ∧ Hid (TR w' t l k gs S lg (.map (some fm)) pl kd (fl ++ [(m, ge)]) B A ∧ EN w' ge m false pl0 ∧ KA w w' A A) := by
  have h1 : TR w.drew t l k gs S lg (.map (some fm)) pl kd fl B A := h.same (Nat.le_refl _) (fun j _ => rfl)
  obtain ⟨W2, hr, hT, hE2, hK⟩ := h1.find (m := m) (ge := ge) hE hfl hd hs
  have htb := hT.tb
  unfold TB at htb
  have he := hE2
  unfold EN at he
  refine ⟨W2, hr, ⟨by simp [World.cell?, htb], by simp [World.cell?, he], by simp [World.cell?, he]⟩, by simp [World.cell?, htb], ?_⟩
  refine (hT.search hE2 hf).mono ?_
  rintro e w' ⟨rfl, hb⟩
  have hK2 := hK.trans (X := w') (A2 := A) ⟨hb.size, fun j hj _ => hb.block j hj, fun j hj => Or.inl hj, Sm.b hb⟩
  refine ⟨rfl, hid ⟨hT.same hb.size (fun j hj => hb.block j (hT.as_ j hj)), (hb.block ge (Array.getElem?_eq_some_iff.1 hE2).1).trans hE2, hK2.size, hK2.keep, hK2.new, hK2.sm⟩⟩

/-- How many are to be undone. -/
def putM (t : Nat) (w : World) : Nat := match w.cell? ⟨t, 2, none⟩ with
  | some (.int .i64 k) => k.toNat
  | _ => 0

/-- What is known in put's loop. -/
def PutI (w wr : World) (t : Nat) (l : List Mv) (gs : List Nat) (lg fd : Value) (fl : List (Mv × Nat)) (A0 : Nat → Prop) (ge : Nat) (m : Mv) (k : Nat) (S : List Sp) (pl kd : Value) (B A : Nat → Prop) : Prop :=
  TR wr t l k gs S lg fd pl kd fl B A ∧ KA w wr A0 A ∧ EN wr ge m false pl0 ∧ ¬ A ge

theorem PutI.round {w wr : World} {t : Nat} {l : List Mv} {gs : List Nat} {lg fd : Value} {fl : List (Mv × Nat)} {A0 : Nat → Prop} {ge : Nat} {m : Mv} {k : Nat} {S : List Sp} {pl kd : Value} {B A : Nat → Prop} (h : PutI w wr t l gs lg fd fl A0 ge m (k + 1) S pl kd B A) {g : Nat} {x : Mv} (hg : gs[k]? = some g) (hm : l[k]? = some x) :
    Calls Tryz.prog 99 #[.pointer (some ⟨t, 3, none⟩), .pointer (some ⟨g, 0, none⟩)] (wr.setCell ⟨t, 2, none⟩ (.int .i64 (k : Int))).drew fun e w' => e = .returned (.tuple #[]) ∧ ∃ S' pl' kd' B' A', PutI w w' t l gs lg fd fl A0 ge m k S' pl' kd' B' A' := by
  obtain ⟨hT, hK, hE, hA⟩ := h
  refine (hT.undone hg hm).mono ?_
  rintro e w' ⟨rfl, S', pl', kd', B', A', h1, h2⟩
  have hgw := (Array.getElem?_eq_some_iff.1 hE).1
  refine ⟨rfl, S', pl', kd', B', A', h1, hK.trans h2, (h2.keep ge hgw hA).trans hE, fun e => ?_⟩
  rcases h2.new ge e with e | e
  · exact hA e
  · omega

set_option maxRecDepth 100000 in
set_option maxHeartbeats 4000000 in
/-- Where the map is there. -/
theorem put_some (t n : Nat) (a : Option Addr) (c : Nat) (l : List Mv) (k0 : Nat) (gs : List Nat) (S0 : List Sp) (fm : Nat) (pl0' kd0 : Value) (fl : List (Mv × Nat)) (B0 A0 : Nat → Prop) (ge : Nat) (i1 i2 tm b1 b2 p1 p2 : Int) (ky : ByteArray) (w : World) (h0 : TR w t l k0 gs S0 (.slice a n c) (.map (some fm)) pl0' kd0 fl B0 A0) (HN : Hid (n = l.length)) (hE : EN w ge (⟨(i1, i2), tm, (b1, b2), (p1, p2), ky⟩ : Mv) false pl0) (hgA : ¬ A0 ge) (HF : Hid (∀ x ∈ l, x.id ≠ (⟨(i1, i2), tm, (b1, b2), (p1, p2), ky⟩ : Mv).id)) (hfl : ∀ x ∈ fl, x.1.id ≠ (⟨(i1, i2), tm, (b1, b2), (p1, p2), ky⟩ : Mv).id) (HB : Hid ((b1, b2) ≠ ((0, 0) : Dt) ∧ ¬ isEnd (b1, b2))) (HI : Hid ((i1, i2) ≠ ((0, 0) : Dt) ∧ ¬ isEnd (i1, i2))) (HD : Hid (Dw (i1, i2) ∧ Dw (b1, b2) ∧ Dw (p1, p2))) (hs : l.length + 1 ≤ 1000) (hs' : fl.length ≤ 1000) :
    Calls Tryz.prog 61 #[.pointer (some ⟨t, 0, none⟩), .pointer (some ⟨ge, 0, none⟩)] w fun e w' => e = .returned (.tuple #[]) ∧ ∃ k S lg pl kd B A, TR w' t (insL mvl l (⟨(i1, i2), tm, (b1, b2), (p1, p2), ky⟩ : Mv)) k (insG l gs (⟨(i1, i2), tm, (b1, b2), (p1, p2), ky⟩ : Mv) ge) S lg (.map (some fm)) pl kd (fl ++ [((⟨(i1, i2), tm, (b1, b2), (p1, p2), ky⟩ : Mv), ge)]) B A ∧ KA w w' (fun j => A0 j ∨ j = ge) A := by
  have hmxo : Tryz.prog.follows .mixedOrders = true := by kernel_rfl
  obtain ⟨W2, hr2, hS2', hc0, HS⟩ := h0.puts hE HF.out hfl HD.out.1 hs'
  unfold dv pvF at hr2
  unfold pvF at HS
  have hmn := enmap_some fm
  have htb := h0.tb
  unfold TB at htb
  have he := hE
  unfold EN at he
  have hT1 : w.cell? ⟨t, 1, none⟩ = some (.map (some fm)) := by simp [World.cell?, htb]
  have hS2 : w.drew.cell? ⟨t, 1, none⟩ = some (.map (some fm)) ∧ w.drew.cell? ⟨ge, 0, none⟩ = some (.int .i64 i1) ∧ w.drew.cell? ⟨ge, 1, none⟩ = some (.int .i64 i2) := by
    refine ⟨hT1, ?_, ?_⟩
    · show w.cell? _ = _; simp [World.cell?, he]
    · show w.cell? _ = _; simp [World.cell?, he]
  obtain ⟨R, hR⟩ : ∃ R, R = rkL mvl l (⟨(i1, i2), tm, (b1, b2), (p1, p2), ky⟩ : Mv) := ⟨_, rfl⟩
  rw [← hR] at HS
  have hRs : R ≤ 1000 := by have := rk_le mvl l (⟨(i1, i2), tm, (b1, b2), (p1, p2), ky⟩ : Mv); omega
  have HR := hid hR
  have HSM := hid hs
  have HG := hid hgA
  clear hR htb he hs hs' hfl hE hgA h0
  go_enter Tryz.func61, Tryz.ntmps61
  go_wp2_with fail
  refine wp_region_held_drew (S := fun w' => w'.cell? ⟨t, 1, none⟩ = some (.map (some fm)) ∧ w'.cell? ⟨ge, 0, none⟩ = some (.int .i64 i1) ∧ w'.cell? ⟨ge, 1, none⟩ = some (.int .i64 i2)) hmxo hS2 ?_
  intro _
  refine wpAnyH_take (i := 0) (v := .pointer (some ⟨t, 0, none⟩)) rfl (by kernel_rfl) (by kernel_rfl) (by kernel_rfl) (fun _ _ _ h => h) (Or.inl ⟨by kernel_rfl, fun w hSw => ?_⟩) hS2 ?_
  · obtain ⟨e1, e2, e3⟩ := hSw; go_simp
  simp only [Act.put, List.getElem_toArray, List.getElem_cons_succ, List.getElem_cons_zero, List.setIfInBounds_toArray, List.set_cons_zero, List.set_cons_succ]
  refine wpAnyH_take (i := 1) (v := .pointer (some ⟨t, 0, none⟩)) rfl (by kernel_rfl) (by kernel_rfl) (by kernel_rfl) (fun _ _ _ h => h) (Or.inl ⟨by kernel_rfl, fun w hSw => ?_⟩) hS2 ?_
  · obtain ⟨e1, e2, e3⟩ := hSw; go_simp
  simp only [Act.put, List.getElem_toArray, List.getElem_cons_succ, List.getElem_cons_zero, List.setIfInBounds_toArray, List.set_cons_zero, List.set_cons_succ]
  refine wpAnyH_take (i := 2) (v := .pointer (some ⟨t, 1, none⟩)) rfl (by kernel_rfl) (by kernel_rfl) (by kernel_rfl) (fun _ _ _ h => h) (Or.inl ⟨by kernel_rfl, fun w hSw => ?_⟩) hS2 ?_
  · obtain ⟨e1, e2, e3⟩ := hSw; go_simp
  simp only [Act.put, List.getElem_toArray, List.getElem_cons_succ, List.getElem_cons_zero, List.setIfInBounds_toArray, List.set_cons_zero, List.set_cons_succ]
  refine wpAnyH_take (i := 3) (v := .map (some fm)) rfl (by kernel_rfl) (by kernel_rfl) (by kernel_rfl) (fun _ _ _ h => h) (Or.inl ⟨by kernel_rfl, fun w hSw => ?_⟩) hS2 ?_
  · obtain ⟨e1, e2, e3⟩ := hSw; go_simp
  simp only [Act.put, List.getElem_toArray, List.getElem_cons_succ, List.getElem_cons_zero, List.setIfInBounds_toArray, List.set_cons_zero, List.set_cons_succ]
  refine wpAnyH_take (i := 4) (v := .pointer (some ⟨ge, 0, none⟩)) rfl (by kernel_rfl) (by kernel_rfl) (by kernel_rfl) (fun _ _ _ h => h) (Or.inl ⟨by kernel_rfl, fun w hSw => ?_⟩) hS2 ?_
  · obtain ⟨e1, e2, e3⟩ := hSw; go_simp
  simp only [Act.put, List.getElem_toArray, List.getElem_cons_succ, List.getElem_cons_zero, List.setIfInBounds_toArray, List.set_cons_zero, List.set_cons_succ]
  refine wpAnyH_take (i := 5) (v := .pointer (some ⟨ge, 0, none⟩)) rfl (by kernel_rfl) (by kernel_rfl) (by kernel_rfl) (fun _ _ _ h => h) (Or.inl ⟨by kernel_rfl, fun w hSw => ?_⟩) hS2 ?_
  · obtain ⟨e1, e2, e3⟩ := hSw; go_simp
  simp only [Act.put, List.getElem_toArray, List.getElem_cons_succ, List.getElem_cons_zero, List.setIfInBounds_toArray, List.set_cons_zero, List.set_cons_succ]
  refine wpAnyH_take (i := 6) (v := .pointer (some ⟨ge, 0, none⟩)) rfl (by kernel_rfl) (by kernel_rfl) (by kernel_rfl) (fun _ _ _ h => h) (Or.inl ⟨by kernel_rfl, fun w hSw => ?_⟩) hS2 ?_
  · obtain ⟨e1, e2, e3⟩ := hSw; go_simp
  simp only [Act.put, List.getElem_toArray, List.getElem_cons_succ, List.getElem_cons_zero, List.setIfInBounds_toArray, List.set_cons_zero, List.set_cons_succ]
  refine wpAnyH_take (i := 7) (v := .pointer (some ⟨ge, 0, none⟩)) rfl (by kernel_rfl) (by kernel_rfl) (by kernel_rfl) (fun _ _ _ h => h) (Or.inl ⟨by kernel_rfl, fun w hSw => ?_⟩) hS2 ?_
  · obtain ⟨e1, e2, e3⟩ := hSw; go_simp
  simp only [Act.put, List.getElem_toArray, List.getElem_cons_succ, List.getElem_cons_zero, List.setIfInBounds_toArray, List.set_cons_zero, List.set_cons_succ]
  refine wpAnyH_take (i := 8) (v := .agg #[.int .i64 i1, .int .i64 i2]) rfl (by kernel_rfl) (by kernel_rfl) (by kernel_rfl) (fun _ _ _ h => h) (Or.inl ⟨by kernel_rfl, fun w hSw => ?_⟩) hS2 ?_
  · obtain ⟨e1, e2, e3⟩ := hSw; go_simp
  simp only [Act.put, List.getElem_toArray, List.getElem_cons_succ, List.getElem_cons_zero, List.setIfInBounds_toArray, List.set_cons_zero, List.set_cons_succ]
  refine wpAnyH_take (i := 9) (v := .pointer (some ⟨ge, 0, none⟩)) rfl (by kernel_rfl) (by kernel_rfl) (by kernel_rfl) (fun _ _ _ h => h) (Or.inl ⟨by kernel_rfl, fun w hSw => ?_⟩) hS2 ?_
  · obtain ⟨e1, e2, e3⟩ := hSw; go_simp
  simp only [Act.put, List.getElem_toArray, List.getElem_cons_succ, List.getElem_cons_zero, List.setIfInBounds_toArray, List.set_cons_zero, List.set_cons_succ]
  refine wpAnyH_ready (rs := [10]) (by kernel_rfl) (by simp) ?_
  refine AllReadyH.cons rfl (fun K hK => ?_) AllReadyH.nil
  go_simp
  refine hK.out _ _ hS2' (fun _ => ?_)
  clear hK K
  refine wpAnyH_done (by kernel_rfl) ?_ _
  clear hS2 hS2' hr2 hT1
  go_wp2_with (go_at_call 97; refine HS.mono ?_; rintro e W3 ⟨rfl, H3⟩)
  go_loopw [] (fun wr => ∃ (k : Nat) (S : List Sp) (pl kd : Value) (B A : Nat → Prop), Hid (PutI w wr t l gs (.slice a n c) (.map (some fm)) (fl ++ [((⟨(i1, i2), tm, (b1, b2), (p1, p2), ky⟩ : Mv), ge)]) A0 ge (⟨(i1, i2), tm, (b1, b2), (p1, p2), ky⟩ : Mv) k S pl kd B A)) (fun wr => putM t wr)
  case atStart => exact ⟨k0, S0, pl0', kd0, B0, A0, hid ⟨H3.out.1, H3.out.2.2, H3.out.2.1, HG.out⟩⟩
  case round =>
    clear HS H3 hc0
    obtain ⟨k, S, pl, kd, B, A, HT⟩ := hrel
    have htb := HT.out.1.tb
    have hkn : k ≤ 1000 := by have := HT.out.1.le; have := HT.out.1.small; omega
    have c2 : wr.cell? ⟨t, 2, none⟩ = some (.int .i64 (k : Int)) := by unfold TB at htb; simp [World.cell?, htb]
    have c0 : wr.cell? ⟨t, 0, none⟩ = some (.slice a n c) := by unfold TB at htb; simp [World.cell?, htb]
    have z2 : wr.frozen? ⟨t, 2, none⟩ = false := by unfold TB at htb; simp [World.frozen?, htb]
    by_cases hlt : R < k
    · obtain ⟨k, rfl⟩ : ∃ j, k = j + 1 := ⟨k - 1, by omega⟩
      have hb : decide ((R : Int) < ((k + 1 : Nat) : Int)) = true := by simp; omega
      have hb2 : decide ((R : Int) < (k : Int) + 1) = true := by simp; omega
      obtain ⟨rb, ro, c', g, x, e1, e2, hg, hx⟩ := HT.out.1.log_at (i := k) (by have := HT.out.1.le; omega)
      rw [← HN.out] at e1
      have ha : a = some ⟨rb, ro, none⟩ := by
        simp only [Value.slice.injEq] at e1
        exact e1.1
      subst ha
      clear e1
      have hrbt : rb ≠ t := fun e => by
        have h7 := HT.out.1.row
        rcases h7.2 with ⟨e', _⟩ | ⟨g', cap, cur, e', hb, hgg, _⟩
        · simp at e'
        · simp only [Value.slice.injEq, Option.some.injEq, Addr.mk.injEq] at e'
          unfold TB at htb
          rw [← e, e'.1.1, hgg] at htb
          simp at htb
      have hS4 : (wr.setCell ⟨t, 2, none⟩ (.int .i64 (k : Int))).drew.cell? ⟨t, 2, none⟩ = some (.int .i64 (k : Int)) ∧ (wr.setCell ⟨t, 2, none⟩ (.int .i64 (k : Int))).drew.cell? ⟨t, 0, none⟩ = some (.slice (some ⟨rb, ro, none⟩) n c) ∧ (wr.setCell ⟨t, 2, none⟩ (.int .i64 (k : Int))).drew.cell? ⟨rb, ro + k, none⟩ = some (.pointer (some ⟨g, 0, none⟩)) := by
        obtain ⟨q1, q2⟩ := HT.out.1.told
        unfold TB at q1
        refine ⟨by show (wr.setCell ⟨t, 2, none⟩ (.int .i64 (k : Int))).cell? _ = _; simp [World.cell?, q1], by show (wr.setCell ⟨t, 2, none⟩ (.int .i64 (k : Int))).cell? _ = _; simp [World.cell?, q1], ?_⟩
        show (wr.setCell ⟨t, 2, none⟩ (.int .i64 (k : Int))).cell? _ = _
        have : (wr.setCell ⟨t, 2, none⟩ (.int .i64 (k : Int))).heap[rb]? = wr.heap[rb]? := World.grownBy.block (grownBy_setCell wr t 2 _) rb (by
          have := HT.out.1.al rb rfl
          exact HT.out.1.as_ rb this) (by simpa using hrbt)
        simp only [World.cell?, this]
        exact e2
      have HU := HT.out.round hg hx
      have HU2 := HU.mono (R' := fun e w' => e = .returned (.tuple #[]) ∧ (w'.cell? ⟨t, 2, none⟩ = some (.int .i64 (k : Int)) ∧ w'.cell? ⟨t, 0, none⟩ = some (.slice (some ⟨rb, ro, none⟩) n c) ∧ w'.cell? ⟨rb, ro + k, none⟩ = some (.pointer (some ⟨g, 0, none⟩))) ∧ Hid (∃ S' pl' kd' B' A', PutI w w' t l gs (.slice (some ⟨rb, ro, none⟩) n c) (.map (some fm)) (fl ++ [((⟨(i1, i2), tm, (b1, b2), (p1, p2), ky⟩ : Mv), ge)]) A0 ge (⟨(i1, i2), tm, (b1, b2), (p1, p2), ky⟩ : Mv) k S' pl' kd' B' A')) (fun e w' h => by
        obtain ⟨h1, S', pl', kd', B', A', h2⟩ := h
        have q := h2.1.tb
        unfold TB at q
        refine ⟨h1, ⟨by simp [World.cell?, q], by simp [World.cell?, q], ?_⟩, hid ⟨S', pl', kd', B', A', h2⟩⟩
        obtain ⟨rb', ro', c'', g', x', f1, f2, hg', hx'⟩ := h2.1.log_at (i := k) (by have := HT.out.1.le; omega)
        simp only [Value.slice.injEq, Option.some.injEq, Addr.mk.injEq] at f1
        rw [hg] at hg'
        cases hg'
        rw [f1.1.1, f1.1.2.1]
        exact f2)
      have hkk : k ≤ 1000 := by omega
      have hkl : k < n := by rw [HN.out]; have := HT.out.1.le; omega
      clear HU e2 htb hkn hrbt
      have hm0 : Hid (putM t wr = k + 1) := hid (by
        unfold putM
        rw [c2]
        simp)
      clear HT hg hx
      go_wp2_with fail
      refine wp_region_held_drew (S := fun w' => w'.cell? ⟨t, 2, none⟩ = some (.int .i64 (k : Int)) ∧ w'.cell? ⟨t, 0, none⟩ = some (.slice (some ⟨rb, ro, none⟩) n c) ∧ w'.cell? ⟨rb, ro + k, none⟩ = some (.pointer (some ⟨g, 0, none⟩))) hmxo hS4 ?_
      intro _
      refine wpAnyH_take (i := 0) (v := .pointer (some ⟨t, 0, none⟩)) rfl (by kernel_rfl) (by kernel_rfl) (by kernel_rfl) (fun _ _ _ h => h) (Or.inl ⟨by kernel_rfl, fun w hSw => ?_⟩) hS4 ?_
      · obtain ⟨e1, e2, e3⟩ := hSw; go_simp
      simp only [Act.put, List.getElem_toArray, List.getElem_cons_succ, List.getElem_cons_zero, List.setIfInBounds_toArray, List.set_cons_zero, List.set_cons_succ]
      refine wpAnyH_take (i := 1) (v := .pointer (some ⟨t, 0, none⟩)) rfl (by kernel_rfl) (by kernel_rfl) (by kernel_rfl) (fun _ _ _ h => h) (Or.inl ⟨by kernel_rfl, fun w hSw => ?_⟩) hS4 ?_
      · obtain ⟨e1, e2, e3⟩ := hSw; go_simp
      simp only [Act.put, List.getElem_toArray, List.getElem_cons_succ, List.getElem_cons_zero, List.setIfInBounds_toArray, List.set_cons_zero, List.set_cons_succ]
      refine wpAnyH_take (i := 2) (v := .pointer (some ⟨t, 3, none⟩)) rfl (by kernel_rfl) (by kernel_rfl) (by kernel_rfl) (fun _ _ _ h => h) (Or.inl ⟨by kernel_rfl, fun w hSw => ?_⟩) hS4 ?_
      · obtain ⟨e1, e2, e3⟩ := hSw; go_simp
      simp only [Act.put, List.getElem_toArray, List.getElem_cons_succ, List.getElem_cons_zero, List.setIfInBounds_toArray, List.set_cons_zero, List.set_cons_succ]
      refine wpAnyH_take (i := 3) (v := .pointer (some ⟨t, 0, none⟩)) rfl (by kernel_rfl) (by kernel_rfl) (by kernel_rfl) (fun _ _ _ h => h) (Or.inl ⟨by kernel_rfl, fun w hSw => ?_⟩) hS4 ?_
      · obtain ⟨e1, e2, e3⟩ := hSw; go_simp
      simp only [Act.put, List.getElem_toArray, List.getElem_cons_succ, List.getElem_cons_zero, List.setIfInBounds_toArray, List.set_cons_zero, List.set_cons_succ]
      refine wpAnyH_take (i := 4) (v := .pointer (some ⟨t, 0, none⟩)) rfl (by kernel_rfl) (by kernel_rfl) (by kernel_rfl) (fun _ _ _ h => h) (Or.inl ⟨by kernel_rfl, fun w hSw => ?_⟩) hS4 ?_
      · obtain ⟨e1, e2, e3⟩ := hSw; go_simp
      simp only [Act.put, List.getElem_toArray, List.getElem_cons_succ, List.getElem_cons_zero, List.setIfInBounds_toArray, List.set_cons_zero, List.set_cons_succ]
      refine wpAnyH_take (i := 5) (v := .pointer (some ⟨t, 0, none⟩)) rfl (by kernel_rfl) (by kernel_rfl) (by kernel_rfl) (fun _ _ _ h => h) (Or.inl ⟨by kernel_rfl, fun w hSw => ?_⟩) hS4 ?_
      · obtain ⟨e1, e2, e3⟩ := hSw; go_simp
      simp only [Act.put, List.getElem_toArray, List.getElem_cons_succ, List.getElem_cons_zero, List.setIfInBounds_toArray, List.set_cons_zero, List.set_cons_succ]
      refine wpAnyH_take (i := 6) (v := .slice (some ⟨rb, ro, none⟩) n c) rfl (by kernel_rfl) (by kernel_rfl) (by kernel_rfl) (fun _ _ _ h => h) (Or.inl ⟨by kernel_rfl, fun w hSw => ?_⟩) hS4 ?_
      · obtain ⟨e1, e2, e3⟩ := hSw; go_simp
      simp only [Act.put, List.getElem_toArray, List.getElem_cons_succ, List.getElem_cons_zero, List.setIfInBounds_toArray, List.set_cons_zero, List.set_cons_succ]
      refine wpAnyH_take (i := 7) (v := .pointer (some ⟨t, 0, none⟩)) rfl (by kernel_rfl) (by kernel_rfl) (by kernel_rfl) (fun _ _ _ h => h) (Or.inl ⟨by kernel_rfl, fun w hSw => ?_⟩) hS4 ?_
      · obtain ⟨e1, e2, e3⟩ := hSw; go_simp
      simp only [Act.put, List.getElem_toArray, List.getElem_cons_succ, List.getElem_cons_zero, List.setIfInBounds_toArray, List.set_cons_zero, List.set_cons_succ]
      refine wpAnyH_take (i := 8) (v := .pointer (some ⟨t, 0, none⟩)) rfl (by kernel_rfl) (by kernel_rfl) (by kernel_rfl) (fun _ _ _ h => h) (Or.inl ⟨by kernel_rfl, fun w hSw => ?_⟩) hS4 ?_
      · obtain ⟨e1, e2, e3⟩ := hSw; go_simp
      simp only [Act.put, List.getElem_toArray, List.getElem_cons_succ, List.getElem_cons_zero, List.setIfInBounds_toArray, List.set_cons_zero, List.set_cons_succ]
      refine wpAnyH_take (i := 9) (v := .pointer (some ⟨t, 2, none⟩)) rfl (by kernel_rfl) (by kernel_rfl) (by kernel_rfl) (fun _ _ _ h => h) (Or.inl ⟨by kernel_rfl, fun w hSw => ?_⟩) hS4 ?_
      · obtain ⟨e1, e2, e3⟩ := hSw; go_simp
      simp only [Act.put, List.getElem_toArray, List.getElem_cons_succ, List.getElem_cons_zero, List.setIfInBounds_toArray, List.set_cons_zero, List.set_cons_succ]
      refine wpAnyH_take (i := 10) (v := .int .i64 (k : Int)) rfl (by kernel_rfl) (by kernel_rfl) (by kernel_rfl) (fun _ _ _ h => h) (Or.inl ⟨by kernel_rfl, fun w hSw => ?_⟩) hS4 ?_
      · obtain ⟨e1, e2, e3⟩ := hSw; go_simp
      simp only [Act.put, List.getElem_toArray, List.getElem_cons_succ, List.getElem_cons_zero, List.setIfInBounds_toArray, List.set_cons_zero, List.set_cons_succ]
      refine wpAnyH_take (i := 11) (v := .pointer (some ⟨rb, ro + k, none⟩)) rfl (by kernel_rfl) (by kernel_rfl) (by kernel_rfl) (fun _ _ _ h => h) (Or.inl ⟨by kernel_rfl, fun w hSw => ?_⟩) hS4 ?_
      · obtain ⟨e1, e2, e3⟩ := hSw; go_simp
      simp only [Act.put, List.getElem_toArray, List.getElem_cons_succ, List.getElem_cons_zero, List.setIfInBounds_toArray, List.set_cons_zero, List.set_cons_succ]
      refine wpAnyH_take (i := 12) (v := .pointer (some ⟨g, 0, none⟩)) rfl (by kernel_rfl) (by kernel_rfl) (by kernel_rfl) (fun _ _ _ h => h) (Or.inl ⟨by kernel_rfl, fun w hSw => ?_⟩) hS4 ?_
      · obtain ⟨e1, e2, e3⟩ := hSw; go_simp
      simp only [Act.put, List.getElem_toArray, List.getElem_cons_succ, List.getElem_cons_zero, List.setIfInBounds_toArray, List.set_cons_zero, List.set_cons_succ]
      refine wpAnyH_ready (rs := [13]) (by kernel_rfl) (by simp) ?_
      refine AllReadyH.cons rfl (fun K hK => ?_) AllReadyH.nil
      go_simp
      refine HU2.mono ?_
      rintro e W5 ⟨rfl, S5, HF5⟩
      refine hK.out _ _ S5 (fun _ => ?_)
      clear hK K
      refine wpAnyH_done (by kernel_rfl) ?_ _
      clear HU2 hS4
      go_wp2
      go_roundw
      case rel =>
        obtain ⟨S', pl', kd', B', A', h7⟩ := HF5.out
        exact ⟨k, S', pl', kd', B', A', hid h7⟩
      case measure =>
        show putM t W5 < putM t wr
        rw [hm0.out]
        unfold putM
        rw [S5.1]
        show (k : Int).toNat < k + 1
        omega
    · have hb : decide ((R : Int) < (k : Int)) = false := by simp; omega
      have hk' : k ≤ rkL mvl l (⟨(i1, i2), tm, (b1, b2), (p1, p2), ky⟩ : Mv) := by rw [← HR.out]; omega
      have hI := HT.out.1.inserted (ge := ge) (m := (⟨(i1, i2), tm, (b1, b2), (p1, p2), ky⟩ : Mv)) (tk := false) (q := pl0) hk' HT.out.2.2.1 HT.out.2.2.2 HF.out HB.out HI.out HD.out HSM.out
      rw [← HR.out] at hI
      have hI2 := hI.mono (R' := fun e w' => ∃ rg c v0, e = .returned (.slice (some ⟨rg, 0, none⟩) (l.length + 1) c) ∧ w'.cell? ⟨t, 0, none⟩ = some v0 ∧ w'.frozen? ⟨t, 0, none⟩ = false ∧ Hid (∃ k S lg pl kd B A, TR (w'.setCell ⟨t, 0, none⟩ (.slice (some ⟨rg, 0, none⟩) (l.length + 1) c)) t (insL mvl l (⟨(i1, i2), tm, (b1, b2), (p1, p2), ky⟩ : Mv)) k (insG l gs (⟨(i1, i2), tm, (b1, b2), (p1, p2), ky⟩ : Mv) ge) S lg (.map (some fm)) pl kd (fl ++ [((⟨(i1, i2), tm, (b1, b2), (p1, p2), ky⟩ : Mv), ge)]) B A ∧ KA w (w'.setCell ⟨t, 0, none⟩ (.slice (some ⟨rg, 0, none⟩) (l.length + 1) c)) (fun j => A0 j ∨ j = ge) A)) (fun e w' h => by
        obtain ⟨rg, c', v0, h1, h2, h3, h4⟩ := h
        obtain ⟨A', h5, h6⟩ := h4.out
        refine ⟨rg, c', v0, h1, h2, h3, hid ⟨k, S, _, pl, kd, B, A', h5, ?_⟩⟩
        have hka := HT.out.2.1
        exact KA.trans (A1 := fun j => A j ∨ j = ge) ⟨hka.size, fun j hj hA => hka.keep j hj (fun e => hA (Or.inl e)), fun j hj => by
          rcases hj with hj | hj
          · rcases hka.new j hj with e | e
            · exact Or.inl (Or.inl e)
            · exact Or.inr e
          · exact Or.inl (Or.inr hj), hka.sm⟩ h6)
      clear hI htb hk' HT
      go_wp2_with (go_at_call 100; refine hI2.mono ?_; rintro e W5 ⟨rg, c5, v0, rfl, e5, z5, HF5⟩)
      refine bodyPost_end (results_none rfl _ _ _) rfl ?_
      exact ⟨rfl, HF5.out⟩

set_option maxRecDepth 100000 in
set_option maxHeartbeats 4000000 in
/-- Where there is no map yet. -/
theorem put_none (t n : Nat) (a : Option Addr) (c : Nat) (l : List Mv) (k0 : Nat) (gs : List Nat) (S0 : List Sp) (pl0' kd0 : Value) (fl : List (Mv × Nat)) (B0 A0 : Nat → Prop) (ge : Nat) (i1 i2 tm b1 b2 p1 p2 : Int) (ky : ByteArray) (w : World) (h0 : TR w t l k0 gs S0 (.slice a n c) (.map none) pl0' kd0 fl B0 A0) (HN : Hid (n = l.length)) (hE : EN w ge (⟨(i1, i2), tm, (b1, b2), (p1, p2), ky⟩ : Mv) false pl0) (hgA : ¬ A0 ge) (HF : Hid (∀ x ∈ l, x.id ≠ (⟨(i1, i2), tm, (b1, b2), (p1, p2), ky⟩ : Mv).id)) (hfl : ∀ x ∈ fl, x.1.id ≠ (⟨(i1, i2), tm, (b1, b2), (p1, p2), ky⟩ : Mv).id) (HB : Hid ((b1, b2) ≠ ((0, 0) : Dt) ∧ ¬ isEnd (b1, b2))) (HI : Hid ((i1, i2) ≠ ((0, 0) : Dt) ∧ ¬ isEnd (i1, i2))) (HD : Hid (Dw (i1, i2) ∧ Dw (b1, b2) ∧ Dw (p1, p2))) (hs : l.length + 1 ≤ 1000) (hs' : fl.length ≤ 1000) :
    Calls Tryz.prog 61 #[.pointer (some ⟨t, 0, none⟩), .pointer (some ⟨ge, 0, none⟩)] w fun e w' => e = .returned (.tuple #[]) ∧ ∃ k S lg fd pl kd B A, TR w' t (insL mvl l (⟨(i1, i2), tm, (b1, b2), (p1, p2), ky⟩ : Mv)) k (insG l gs (⟨(i1, i2), tm, (b1, b2), (p1, p2), ky⟩ : Mv) ge) S lg fd pl kd (fl ++ [((⟨(i1, i2), tm, (b1, b2), (p1, p2), ky⟩ : Mv), ge)]) B A ∧ KA w w' (fun j => A0 j ∨ j = ge) A := by
  have hmxo : Tryz.prog.follows .mixedOrders = true := by kernel_rfl
  have htb := h0.tb
  unfold TB at htb
  have he := hE
  unfold EN at he
  have htw := (Array.getElem?_eq_some_iff.1 htb).1
  have hgw := (Array.getElem?_eq_some_iff.1 he).1
  have hgt : ge ≠ t := fun e => by
    rw [e, htb] at he
    simp at he
  have hT1 : w.cell? ⟨t, 1, none⟩ = some (.map none) := by simp [World.cell?, htb]
  have hz1 : (w.alloc (.map #[] 0)).frozen? ⟨t, 1, none⟩ = false := by simp only [World.frozen?, Below.heap_alloc w _ t htw, htb]; rfl
  have hd1 : (w.alloc (.map #[] 0)).cell? ⟨t, 1, none⟩ = some (.map none) := by simp only [World.cell?, Below.heap_alloc w _ t htw, htb]; rfl
  have hmn := enmap_none
  have hmk := @run_makeMap Tryz.prog
  obtain ⟨fm, hfm⟩ : ∃ fm, fm = w.heap.size := ⟨_, rfl⟩
  obtain ⟨W1, hW1⟩ : ∃ W1, W1 = (w.alloc (.map #[] 0)).setCell ⟨t, 1, none⟩ (.map (some w.heap.size)) := ⟨_, rfl⟩
  have hsz : W1.heap.size = w.heap.size + 1 := by rw [hW1]; simp [World.setCell]
  have g0 : w.grownBy (w.alloc (.map #[] 0)) none := World.grownBy_alloc w _ none
  have g1 : (w.alloc (.map #[] 0)).grownBy W1 (some t) := by rw [hW1]; exact grownBy_setCell _ t 1 _
  have keep : ∀ j, j < w.heap.size → j ≠ t → W1.heap[j]? = w.heap[j]? := fun j hj hjt => (g1.block j (by simp; omega) (by simpa using hjt)).trans (g0.block j hj (by simp))
  have htb1 : TB W1 t (.slice a n c) (.map (some fm)) (.int .i64 (k0 : Int)) pl0' kd0 := by
    have h2 := set_blk (j := 1) ((g0.block t htw (by simp)).trans htb) (.map (some w.heap.size))
    rw [hW1, hfm]
    unfold TB
    simpa using h2
  have hpm : PM W1 fm 0 (fun _ => none) := by
    rw [hfm]
    exact (PM.made w).same (g1.block _ (by simp) (by simp; omega))
  have h1 := h0.made (w' := W1) (by omega) (by omega) htb1 hpm keep
  obtain ⟨A1, hA1⟩ : ∃ A1 : Nat → Prop, A1 = fun j => A0 j ∨ j = fm := ⟨_, rfl⟩
  rw [← hA1] at h1
  have hE1 : EN W1 ge (⟨(i1, i2), tm, (b1, b2), (p1, p2), ky⟩ : Mv) false pl0 := (keep ge hgw hgt).trans hE
  have hgA1 : ¬ A1 ge := by
    rw [hA1]
    rintro (e | e)
    · exact hgA e
    · omega
  have HKA : Hid (KA w W1 (fun j => A0 j ∨ j = ge) (fun j => A1 j ∨ j = ge)) := hid ⟨by omega, fun j hj hA => keep j hj (fun e => hA (Or.inl (e ▸ h0.at_))), fun j hj => by
    rw [hA1] at hj
    rcases hj with (hj | hj) | hj
    · exact Or.inl (Or.inl hj)
    · exact Or.inr (by omega)
    · exact Or.inl (Or.inr hj), (Sm.g g0).trans (Sm.g g1)⟩
  have HW := hid hW1
  have hS2 : W1.drew.cell? ⟨t, 1, none⟩ = some (.map (some fm)) ∧ W1.drew.cell? ⟨ge, 0, none⟩ = some (.int .i64 i1) ∧ W1.drew.cell? ⟨ge, 1, none⟩ = some (.int .i64 i2) := by
    have he1 := hE1
    unfold EN at he1
    unfold TB at htb1
    refine ⟨?_, ?_, ?_⟩
    · show W1.cell? _ = _; simp [World.cell?, htb1]
    · show W1.cell? _ = _; simp [World.cell?, he1]
    · show W1.cell? _ = _; simp [World.cell?, he1]
  obtain ⟨W2, hr2, hS2', hc0, HS⟩ := h1.puts hE1 HF.out hfl HD.out.1 hs'
  unfold dv pvF at hr2
  unfold pvF at HS
  obtain ⟨R, hR⟩ : ∃ R, R = rkL mvl l (⟨(i1, i2), tm, (b1, b2), (p1, p2), ky⟩ : Mv) := ⟨_, rfl⟩
  rw [← hR] at HS
  have hRs : R ≤ 1000 := by have := rk_le mvl l (⟨(i1, i2), tm, (b1, b2), (p1, p2), ky⟩ : Mv); omega
  have HR := hid hR
  have HSM := hid hs
  have HG := hid hgA1
  clear hR htb he hs hs' hfl hE hgA h0 hW1 hsz g0 g1 keep htb1 hpm h1 hA1 hE1 hgA1 hfm htw hgw hgt
  go_enter Tryz.func61, Tryz.ntmps61
  go_wp2_with fail
  rw [← HW.out]
  refine wp_region_held_drew (S := fun w' => w'.cell? ⟨t, 1, none⟩ = some (.map (some fm)) ∧ w'.cell? ⟨ge, 0, none⟩ = some (.int .i64 i1) ∧ w'.cell? ⟨ge, 1, none⟩ = some (.int .i64 i2)) hmxo hS2 ?_
  intro _
  refine wpAnyH_take (i := 0) (v := .pointer (some ⟨t, 0, none⟩)) rfl (by kernel_rfl) (by kernel_rfl) (by kernel_rfl) (fun _ _ _ h => h) (Or.inl ⟨by kernel_rfl, fun w hSw => ?_⟩) hS2 ?_
  · obtain ⟨e1, e2, e3⟩ := hSw; go_simp
  simp only [Act.put, List.getElem_toArray, List.getElem_cons_succ, List.getElem_cons_zero, List.setIfInBounds_toArray, List.set_cons_zero, List.set_cons_succ]
  refine wpAnyH_take (i := 1) (v := .pointer (some ⟨t, 0, none⟩)) rfl (by kernel_rfl) (by kernel_rfl) (by kernel_rfl) (fun _ _ _ h => h) (Or.inl ⟨by kernel_rfl, fun w hSw => ?_⟩) hS2 ?_
  · obtain ⟨e1, e2, e3⟩ := hSw; go_simp
  simp only [Act.put, List.getElem_toArray, List.getElem_cons_succ, List.getElem_cons_zero, List.setIfInBounds_toArray, List.set_cons_zero, List.set_cons_succ]
  refine wpAnyH_take (i := 2) (v := .pointer (some ⟨t, 1, none⟩)) rfl (by kernel_rfl) (by kernel_rfl) (by kernel_rfl) (fun _ _ _ h => h) (Or.inl ⟨by kernel_rfl, fun w hSw => ?_⟩) hS2 ?_
  · obtain ⟨e1, e2, e3⟩ := hSw; go_simp
  simp only [Act.put, List.getElem_toArray, List.getElem_cons_succ, List.getElem_cons_zero, List.setIfInBounds_toArray, List.set_cons_zero, List.set_cons_succ]
  refine wpAnyH_take (i := 3) (v := .map (some fm)) rfl (by kernel_rfl) (by kernel_rfl) (by kernel_rfl) (fun _ _ _ h => h) (Or.inl ⟨by kernel_rfl, fun w hSw => ?_⟩) hS2 ?_
  · obtain ⟨e1, e2, e3⟩ := hSw; go_simp
  simp only [Act.put, List.getElem_toArray, List.getElem_cons_succ, List.getElem_cons_zero, List.setIfInBounds_toArray, List.set_cons_zero, List.set_cons_succ]
  refine wpAnyH_take (i := 4) (v := .pointer (some ⟨ge, 0, none⟩)) rfl (by kernel_rfl) (by kernel_rfl) (by kernel_rfl) (fun _ _ _ h => h) (Or.inl ⟨by kernel_rfl, fun w hSw => ?_⟩) hS2 ?_
  · obtain ⟨e1, e2, e3⟩ := hSw; go_simp
  simp only [Act.put, List.getElem_toArray, List.getElem_cons_succ, List.getElem_cons_zero, List.setIfInBounds_toArray, List.set_cons_zero, List.set_cons_succ]
  refine wpAnyH_take (i := 5) (v := .pointer (some ⟨ge, 0, none⟩)) rfl (by kernel_rfl) (by kernel_rfl) (by kernel_rfl) (fun _ _ _ h => h) (Or.inl ⟨by kernel_rfl, fun w hSw => ?_⟩) hS2 ?_
  · obtain ⟨e1, e2, e3⟩ := hSw; go_simp
  simp only [Act.put, List.getElem_toArray, List.getElem_cons_succ, List.getElem_cons_zero, List.setIfInBounds_toArray, List.set_cons_zero, List.set_cons_succ]
  refine wpAnyH_take (i := 6) (v := .pointer (some ⟨ge, 0, none⟩)) rfl (by kernel_rfl) (by kernel_rfl) (by kernel_rfl) (fun _ _ _ h => h) (Or.inl ⟨by kernel_rfl, fun w hSw => ?_⟩) hS2 ?_
  · obtain ⟨e1, e2, e3⟩ := hSw; go_simp
  simp only [Act.put, List.getElem_toArray, List.getElem_cons_succ, List.getElem_cons_zero, List.setIfInBounds_toArray, List.set_cons_zero, List.set_cons_succ]
  refine wpAnyH_take (i := 7) (v := .pointer (some ⟨ge, 0, none⟩)) rfl (by kernel_rfl) (by kernel_rfl) (by kernel_rfl) (fun _ _ _ h => h) (Or.inl ⟨by kernel_rfl, fun w hSw => ?_⟩) hS2 ?_
  · obtain ⟨e1, e2, e3⟩ := hSw; go_simp
  simp only [Act.put, List.getElem_toArray, List.getElem_cons_succ, List.getElem_cons_zero, List.setIfInBounds_toArray, List.set_cons_zero, List.set_cons_succ]
  refine wpAnyH_take (i := 8) (v := .agg #[.int .i64 i1, .int .i64 i2]) rfl (by kernel_rfl) (by kernel_rfl) (by kernel_rfl) (fun _ _ _ h => h) (Or.inl ⟨by kernel_rfl, fun w hSw => ?_⟩) hS2 ?_
  · obtain ⟨e1, e2, e3⟩ := hSw; go_simp
  simp only [Act.put, List.getElem_toArray, List.getElem_cons_succ, List.getElem_cons_zero, List.setIfInBounds_toArray, List.set_cons_zero, List.set_cons_succ]
  refine wpAnyH_take (i := 9) (v := .pointer (some ⟨ge, 0, none⟩)) rfl (by kernel_rfl) (by kernel_rfl) (by kernel_rfl) (fun _ _ _ h => h) (Or.inl ⟨by kernel_rfl, fun w hSw => ?_⟩) hS2 ?_
  · obtain ⟨e1, e2, e3⟩ := hSw; go_simp
  simp only [Act.put, List.getElem_toArray, List.getElem_cons_succ, List.getElem_cons_zero, List.setIfInBounds_toArray, List.set_cons_zero, List.set_cons_succ]
  refine wpAnyH_ready (rs := [10]) (by kernel_rfl) (by simp) ?_
  refine AllReadyH.cons rfl (fun K hK => ?_) AllReadyH.nil
  go_simp
  refine hK.out _ _ hS2' (fun _ => ?_)
  clear hK K
  refine wpAnyH_done (by kernel_rfl) ?_ _
  clear hS2 hS2' hr2 hT1 hz1 hd1 hmn hmk
  go_wp2_with (go_at_call 97; refine HS.mono ?_; rintro e W3 ⟨rfl, H3⟩)
  go_loopw [] (fun wr => ∃ (k : Nat) (S : List Sp) (pl kd : Value) (B A : Nat → Prop), Hid (PutI W1 wr t l gs (.slice a n c) (.map (some fm)) (fl ++ [((⟨(i1, i2), tm, (b1, b2), (p1, p2), ky⟩ : Mv), ge)]) A1 ge (⟨(i1, i2), tm, (b1, b2), (p1, p2), ky⟩ : Mv) k S pl kd B A)) (fun wr => putM t wr)
  case atStart => exact ⟨k0, S0, pl0', kd0, B0, A1, hid ⟨H3.out.1, H3.out.2.2, H3.out.2.1, HG.out⟩⟩
  case round =>
    clear HS H3 hc0
    obtain ⟨k, S, pl, kd, B, A, HT⟩ := hrel
    have htb := HT.out.1.tb
    have hkn : k ≤ 1000 := by have := HT.out.1.le; have := HT.out.1.small; omega
    have c2 : wr.cell? ⟨t, 2, none⟩ = some (.int .i64 (k : Int)) := by unfold TB at htb; simp [World.cell?, htb]
    have c0 : wr.cell? ⟨t, 0, none⟩ = some (.slice a n c) := by unfold TB at htb; simp [World.cell?, htb]
    have z2 : wr.frozen? ⟨t, 2, none⟩ = false := by unfold TB at htb; simp [World.frozen?, htb]
    by_cases hlt : R < k
    · obtain ⟨k, rfl⟩ : ∃ j, k = j + 1 := ⟨k - 1, by omega⟩
      have hb : decide ((R : Int) < ((k + 1 : Nat) : Int)) = true := by simp; omega
      have hb2 : decide ((R : Int) < (k : Int) + 1) = true := by simp; omega
      obtain ⟨rb, ro, c', g, x, e1, e2, hg, hx⟩ := HT.out.1.log_at (i := k) (by have := HT.out.1.le; omega)
      rw [← HN.out] at e1
      have ha : a = some ⟨rb, ro, none⟩ := by
        simp only [Value.slice.injEq] at e1
        exact e1.1
      subst ha
      clear e1
      have hrbt : rb ≠ t := fun e => by
        have h7 := HT.out.1.row
        rcases h7.2 with ⟨e', _⟩ | ⟨g', cap, cur, e', hb, hgg, _⟩
        · simp at e'
        · simp only [Value.slice.injEq, Option.some.injEq, Addr.mk.injEq] at e'
          unfold TB at htb
          rw [← e, e'.1.1, hgg] at htb
          simp at htb
      have hS4 : (wr.setCell ⟨t, 2, none⟩ (.int .i64 (k : Int))).drew.cell? ⟨t, 2, none⟩ = some (.int .i64 (k : Int)) ∧ (wr.setCell ⟨t, 2, none⟩ (.int .i64 (k : Int))).drew.cell? ⟨t, 0, none⟩ = some (.slice (some ⟨rb, ro, none⟩) n c) ∧ (wr.setCell ⟨t, 2, none⟩ (.int .i64 (k : Int))).drew.cell? ⟨rb, ro + k, none⟩ = some (.pointer (some ⟨g, 0, none⟩)) := by
        obtain ⟨q1, q2⟩ := HT.out.1.told
        unfold TB at q1
        refine ⟨by show (wr.setCell ⟨t, 2, none⟩ (.int .i64 (k : Int))).cell? _ = _; simp [World.cell?, q1], by show (wr.setCell ⟨t, 2, none⟩ (.int .i64 (k : Int))).cell? _ = _; simp [World.cell?, q1], ?_⟩
        show (wr.setCell ⟨t, 2, none⟩ (.int .i64 (k : Int))).cell? _ = _
        have : (wr.setCell ⟨t, 2, none⟩ (.int .i64 (k : Int))).heap[rb]? = wr.heap[rb]? := World.grownBy.block (grownBy_setCell wr t 2 _) rb (by
          have := HT.out.1.al rb rfl
          exact HT.out.1.as_ rb this) (by simpa using hrbt)
        simp only [World.cell?, this]
        exact e2
      have HU := HT.out.round hg hx
      have HU2 := HU.mono (R' := fun e w' => e = .returned (.tuple #[]) ∧ (w'.cell? ⟨t, 2, none⟩ = some (.int .i64 (k : Int)) ∧ w'.cell? ⟨t, 0, none⟩ = some (.slice (some ⟨rb, ro, none⟩) n c) ∧ w'.cell? ⟨rb, ro + k, none⟩ = some (.pointer (some ⟨g, 0, none⟩))) ∧ Hid (∃ S' pl' kd' B' A', PutI W1 w' t l gs (.slice (some ⟨rb, ro, none⟩) n c) (.map (some fm)) (fl ++ [((⟨(i1, i2), tm, (b1, b2), (p1, p2), ky⟩ : Mv), ge)]) A1 ge (⟨(i1, i2), tm, (b1, b2), (p1, p2), ky⟩ : Mv) k S' pl' kd' B' A')) (fun e w' h => by
        obtain ⟨h1, S', pl', kd', B', A', h2⟩ := h
        have q := h2.1.tb
        unfold TB at q
        refine ⟨h1, ⟨by simp [World.cell?, q], by simp [World.cell?, q], ?_⟩, hid ⟨S', pl', kd', B', A', h2⟩⟩
        obtain ⟨rb', ro', c'', g', x', f1, f2, hg', hx'⟩ := h2.1.log_at (i := k) (by have := HT.out.1.le; omega)
        simp only [Value.slice.injEq, Option.some.injEq, Addr.mk.injEq] at f1
        rw [hg] at hg'
        cases hg'
        rw [f1.1.1, f1.1.2.1]
        exact f2)
      have hkk : k ≤ 1000 := by omega
      have hkl : k < n := by rw [HN.out]; have := HT.out.1.le; omega
      clear HU e2 htb hkn hrbt
      have hm0 : Hid (putM t wr = k + 1) := hid (by
        unfold putM
        rw [c2]
        simp)
      clear HT hg hx
      go_wp2_with fail
      refine wp_region_held_drew (S := fun w' => w'.cell? ⟨t, 2, none⟩ = some (.int .i64 (k : Int)) ∧ w'.cell? ⟨t, 0, none⟩ = some (.slice (some ⟨rb, ro, none⟩) n c) ∧ w'.cell? ⟨rb, ro + k, none⟩ = some (.pointer (some ⟨g, 0, none⟩))) hmxo hS4 ?_
      intro _
      refine wpAnyH_take (i := 0) (v := .pointer (some ⟨t, 0, none⟩)) rfl (by kernel_rfl) (by kernel_rfl) (by kernel_rfl) (fun _ _ _ h => h) (Or.inl ⟨by kernel_rfl, fun w hSw => ?_⟩) hS4 ?_
      · obtain ⟨e1, e2, e3⟩ := hSw; go_simp
      simp only [Act.put, List.getElem_toArray, List.getElem_cons_succ, List.getElem_cons_zero, List.setIfInBounds_toArray, List.set_cons_zero, List.set_cons_succ]
      refine wpAnyH_take (i := 1) (v := .pointer (some ⟨t, 0, none⟩)) rfl (by kernel_rfl) (by kernel_rfl) (by kernel_rfl) (fun _ _ _ h => h) (Or.inl ⟨by kernel_rfl, fun w hSw => ?_⟩) hS4 ?_
      · obtain ⟨e1, e2, e3⟩ := hSw; go_simp
      simp only [Act.put, List.getElem_toArray, List.getElem_cons_succ, List.getElem_cons_zero, List.setIfInBounds_toArray, List.set_cons_zero, List.set_cons_succ]
      refine wpAnyH_take (i := 2) (v := .pointer (some ⟨t, 3, none⟩)) rfl (by kernel_rfl) (by kernel_rfl) (by kernel_rfl) (fun _ _ _ h => h) (Or.inl ⟨by kernel_rfl, fun w hSw => ?_⟩) hS4 ?_
      · obtain ⟨e1, e2, e3⟩ := hSw; go_simp
      simp only [Act.put, List.getElem_toArray, List.getElem_cons_succ, List.getElem_cons_zero, List.setIfInBounds_toArray, List.set_cons_zero, List.set_cons_succ]
      refine wpAnyH_take (i := 3) (v := .pointer (some ⟨t, 0, none⟩)) rfl (by kernel_rfl) (by kernel_rfl) (by kernel_rfl) (fun _ _ _ h => h) (Or.inl ⟨by kernel_rfl, fun w hSw => ?_⟩) hS4 ?_
      · obtain ⟨e1, e2, e3⟩ := hSw; go_simp
      simp only [Act.put, List.getElem_toArray, List.getElem_cons_succ, List.getElem_cons_zero, List.setIfInBounds_toArray, List.set_cons_zero, List.set_cons_succ]
      refine wpAnyH_take (i := 4) (v := .pointer (some ⟨t, 0, none⟩)) rfl (by kernel_rfl) (by kernel_rfl) (by kernel_rfl) (fun _ _ _ h => h) (Or.inl ⟨by kernel_rfl, fun w hSw => ?_⟩) hS4 ?_
      · obtain ⟨e1, e2, e3⟩ := hSw; go_simp
      simp only [Act.put, List.getElem_toArray, List.getElem_cons_succ, List.getElem_cons_zero, List.setIfInBounds_toArray, List.set_cons_zero, List.set_cons_succ]
      refine wpAnyH_take (i := 5) (v := .pointer (some ⟨t, 0, none⟩)) rfl (by kernel_rfl) (by kernel_rfl) (by kernel_rfl) (fun _ _ _ h => h) (Or.inl ⟨by kernel_rfl, fun w hSw => ?_⟩) hS4 ?_
      · obtain ⟨e1, e2, e3⟩ := hSw; go_simp
      simp only [Act.put, List.getElem_toArray, List.getElem_cons_succ, List.getElem_cons_zero, List.setIfInBounds_toArray, List.set_cons_zero, List.set_cons_succ]
      refine wpAnyH_take (i := 6) (v := .slice (some ⟨rb, ro, none⟩) n c) rfl (by kernel_rfl) (by kernel_rfl) (by kernel_rfl) (fun _ _ _ h => h) (Or.inl ⟨by kernel_rfl, fun w hSw => ?_⟩) hS4 ?_
      · obtain ⟨e1, e2, e3⟩ := hSw; go_simp
      simp only [Act.put, List.getElem_toArray, List.getElem_cons_succ, List.getElem_cons_zero, List.setIfInBounds_toArray, List.set_cons_zero, List.set_cons_succ]
      refine wpAnyH_take (i := 7) (v := .pointer (some ⟨t, 0, none⟩)) rfl (by kernel_rfl) (by kernel_rfl) (by kernel_rfl) (fun _ _ _ h => h) (Or.inl ⟨by kernel_rfl, fun w hSw => ?_⟩) hS4 ?_
      · obtain ⟨e1, e2, e3⟩ := hSw; go_simp
      simp only [Act.put, List.getElem_toArray, List.getElem_cons_succ, List.getElem_cons_zero, List.setIfInBounds_toArray, List.set_cons_zero, List.set_cons_succ]
      refine wpAnyH_take (i := 8) (v := .pointer (some ⟨t, 0, none⟩)) rfl (by kernel_rfl) (by kernel_rfl) (by kernel_rfl) (fun _ _ _ h => h) (Or.inl ⟨by kernel_rfl, fun w hSw => ?_⟩) hS4 ?_
      · obtain ⟨e1, e2, e3⟩ := hSw; go_simp
      simp only [Act.put, List.getElem_toArray, List.getElem_cons_succ, List.getElem_cons_zero, List.setIfInBounds_toArray, List.set_cons_zero, List.set_cons_succ]
      refine wpAnyH_take (i := 9) (v := .pointer (some ⟨t, 2, none⟩)) rfl (by kernel_rfl) (by kernel_rfl) (by kernel_rfl) (fun _ _ _ h => h) (Or.inl ⟨by kernel_rfl, fun w hSw => ?_⟩) hS4 ?_
      · obtain ⟨e1, e2, e3⟩ := hSw; go_simp
      simp only [Act.put, List.getElem_toArray, List.getElem_cons_succ, List.getElem_cons_zero, List.setIfInBounds_toArray, List.set_cons_zero, List.set_cons_succ]
      refine wpAnyH_take (i := 10) (v := .int .i64 (k : Int)) rfl (by kernel_rfl) (by kernel_rfl) (by kernel_rfl) (fun _ _ _ h => h) (Or.inl ⟨by kernel_rfl, fun w hSw => ?_⟩) hS4 ?_
      · obtain ⟨e1, e2, e3⟩ := hSw; go_simp
      simp only [Act.put, List.getElem_toArray, List.getElem_cons_succ, List.getElem_cons_zero, List.setIfInBounds_toArray, List.set_cons_zero, List.set_cons_succ]
      refine wpAnyH_take (i := 11) (v := .pointer (some ⟨rb, ro + k, none⟩)) rfl (by kernel_rfl) (by kernel_rfl) (by kernel_rfl) (fun _ _ _ h => h) (Or.inl ⟨by kernel_rfl, fun w hSw => ?_⟩) hS4 ?_
      · obtain ⟨e1, e2, e3⟩ := hSw; go_simp
      simp only [Act.put, List.getElem_toArray, List.getElem_cons_succ, List.getElem_cons_zero, List.setIfInBounds_toArray, List.set_cons_zero, List.set_cons_succ]
      refine wpAnyH_take (i := 12) (v := .pointer (some ⟨g, 0, none⟩)) rfl (by kernel_rfl) (by kernel_rfl) (by kernel_rfl) (fun _ _ _ h => h) (Or.inl ⟨by kernel_rfl, fun w hSw => ?_⟩) hS4 ?_
      · obtain ⟨e1, e2, e3⟩ := hSw; go_simp
      simp only [Act.put, List.getElem_toArray, List.getElem_cons_succ, List.getElem_cons_zero, List.setIfInBounds_toArray, List.set_cons_zero, List.set_cons_succ]
      refine wpAnyH_ready (rs := [13]) (by kernel_rfl) (by simp) ?_
      refine AllReadyH.cons rfl (fun K hK => ?_) AllReadyH.nil
      go_simp
      refine HU2.mono ?_
      rintro e W5 ⟨rfl, S5, HF5⟩
      refine hK.out _ _ S5 (fun _ => ?_)
      clear hK K
      refine wpAnyH_done (by kernel_rfl) ?_ _
      clear HU2 hS4
      go_wp2
      go_roundw
      case rel =>
        obtain ⟨S', pl', kd', B', A', h7⟩ := HF5.out
        exact ⟨k, S', pl', kd', B', A', hid h7⟩
      case measure =>
        show putM t W5 < putM t wr
        rw [hm0.out]
        unfold putM
        rw [S5.1]
        show (k : Int).toNat < k + 1
        omega
    · have hb : decide ((R : Int) < (k : Int)) = false := by simp; omega
      have hk' : k ≤ rkL mvl l (⟨(i1, i2), tm, (b1, b2), (p1, p2), ky⟩ : Mv) := by rw [← HR.out]; omega
      have hI := HT.out.1.inserted (ge := ge) (m := (⟨(i1, i2), tm, (b1, b2), (p1, p2), ky⟩ : Mv)) (tk := false) (q := pl0) hk' HT.out.2.2.1 HT.out.2.2.2 HF.out HB.out HI.out HD.out HSM.out
      rw [← HR.out] at hI
      have hI2 := hI.mono (R' := fun e w' => ∃ rg c v0, e = .returned (.slice (some ⟨rg, 0, none⟩) (l.length + 1) c) ∧ w'.cell? ⟨t, 0, none⟩ = some v0 ∧ w'.frozen? ⟨t, 0, none⟩ = false ∧ Hid (∃ k S lg pl kd B A, TR (w'.setCell ⟨t, 0, none⟩ (.slice (some ⟨rg, 0, none⟩) (l.length + 1) c)) t (insL mvl l (⟨(i1, i2), tm, (b1, b2), (p1, p2), ky⟩ : Mv)) k (insG l gs (⟨(i1, i2), tm, (b1, b2), (p1, p2), ky⟩ : Mv) ge) S lg (.map (some fm)) pl kd (fl ++ [((⟨(i1, i2), tm, (b1, b2), (p1, p2), ky⟩ : Mv), ge)]) B A ∧ KA W1 (w'.setCell ⟨t, 0, none⟩ (.slice (some ⟨rg, 0, none⟩) (l.length + 1) c)) (fun j => A1 j ∨ j = ge) A)) (fun e w' h => by
        obtain ⟨rg, c', v0, h1, h2, h3, h4⟩ := h
        obtain ⟨A', h5, h6⟩ := h4.out
        refine ⟨rg, c', v0, h1, h2, h3, hid ⟨k, S, _, pl, kd, B, A', h5, ?_⟩⟩
        have hka := HT.out.2.1
        exact KA.trans (A1 := fun j => A j ∨ j = ge) ⟨hka.size, fun j hj hA => hka.keep j hj (fun e => hA (Or.inl e)), fun j hj => by
          rcases hj with hj | hj
          · rcases hka.new j hj with e | e
            · exact Or.inl (Or.inl e)
            · exact Or.inr e
          · exact Or.inl (Or.inr hj), hka.sm⟩ h6)
      clear hI htb hk' HT
      go_wp2_with (go_at_call 100; refine hI2.mono ?_; rintro e W5 ⟨rg, c5, v0, rfl, e5, z5, HF5⟩)
      refine bodyPost_end (results_none rfl _ _ _) rfl ?_
      obtain ⟨k, S, lg, pl, kd, B, A, h7, h8⟩ := HF5.out
      exact ⟨rfl, k, S, lg, _, pl, kd, B, A, h7, HKA.out.trans h8⟩

theorem put_any (t : Nat) (l : List Mv) (k0 : Nat) (gs : List Nat) (S0 : List Sp) (lg fd pl0' kd0 : Value) (fl : List (Mv × Nat)) (B0 A0 : Nat → Prop) (ge : Nat) (m : Mv) (w : World) (h0 : TR w t l k0 gs S0 lg fd pl0' kd0 fl B0 A0) (hE : EN w ge m false pl0) (hgA : ¬ A0 ge) (hf : ∀ x ∈ l, x.id ≠ m.id) (hfl : ∀ x ∈ fl, x.1.id ≠ m.id) (hb : m.block ≠ (0, 0) ∧ ¬ isEnd m.block) (hi : m.id ≠ (0, 0) ∧ ¬ isEnd m.id) (hd : Dw m.id ∧ Dw m.block ∧ Dw m.parent) (hs : l.length + 1 ≤ 1000) (hs' : fl.length ≤ 1000) :
    Calls Tryz.prog 61 #[.pointer (some ⟨t, 0, none⟩), .pointer (some ⟨ge, 0, none⟩)] w fun e w' => e = .returned (.tuple #[]) ∧ ∃ k S lg fd pl kd B A, TR w' t (insL mvl l m) k (insG l gs m ge) S lg fd pl kd (fl ++ [(m, ge)]) B A ∧ KA w w' (fun j => A0 j ∨ j = ge) A := by
  obtain ⟨⟨i1, i2⟩, tm, ⟨b1, b2⟩, ⟨p1, p2⟩, ky⟩ := m
  obtain ⟨a, c, rfl, _⟩ := own_pp h0.row
  have hl := h0.len
  rcases h0.fnd with ⟨e, _⟩ | ⟨fm, G, e, _⟩
  · subst e
    exact put_none t gs.length a c l k0 gs S0 pl0' kd0 fl B0 A0 ge i1 i2 tm b1 b2 p1 p2 ky w h0 (hid hl) hE hgA (hid hf) hfl (hid hb) (hid hi) (hid hd) hs hs'
  · subst e
    refine (put_some t gs.length a c l k0 gs S0 fm pl0' kd0 fl B0 A0 ge i1 i2 tm b1 b2 p1 p2 ky w h0 (hid hl) hE hgA (hid hf) hfl (hid hb) (hid hi) (hid hd) hs hs').mono ?_
    rintro e w' ⟨h1, k, S, lg, pl, kd, B, A, h2⟩
    exact ⟨h1, k, S, lg, _, pl, kd, B, A, h2⟩
end Go.Proofs.YtnmdcdphpcpojaaGreatDoor
