/- The tree, with one more entry that is found. No function of the program. -/
import Derived.Test.YtnmdcdphpcpojaaGreatDoorTrTree
namespace Go.Proofs.YtnmdcdphpcpojaaGreatDoor
section
set_option linter.unusedVariables false
set_option linter.unusedSimpArgs false
open Go.RowKit

/-- All that isn't one's own is as it was; what is one's own now was, or is new. -/
structure KA (w w' : World) (A A' : Nat → Prop) : Prop where
  size : w.heap.size ≤ w'.heap.size
  keep : ∀ j, j < w.heap.size → ¬ A j → w'.heap[j]? = w.heap[j]?
  new : ∀ j, A' j → A j ∨ w.heap.size ≤ j
  sm : Sm w w'

theorem KA.trans {w V X : World} {A A1 A2 : Nat → Prop} (h : KA w V A A1) (k : KA V X A1 A2) : KA w X A A2 :=
  ⟨Nat.le_trans h.size k.size, fun j hj hA => (k.keep j (Nat.lt_of_lt_of_le hj h.size) (fun e => by
    rcases h.new j e with e | e
    · exact hA e
    · omega)).trans (h.keep j hj hA), fun j hj => by
    rcases k.new j hj with e | e
    · exact h.new j e
    · exact Or.inr (Nat.le_trans h.size e), h.sm.trans k.sm⟩

/-- How many are to be done. -/
def nowM (t n : Nat) (w : World) : Nat := match w.cell? ⟨t, 2, none⟩ with
  | some (.int .i64 k) => n - k.toNat
  | _ => 0

set_option maxRecDepth 100000 in
set_option maxHeartbeats 4000000 in
theorem now_any (t : Nat) (l : List Mv) (k0 : Nat) (gs : List Nat) (S0 : List Sp) (lg fd pl0' kd0 : Value) (fl : List (Mv × Nat)) (B0 A0 : Nat → Prop) (w : World) (h0 : TR w t l k0 gs S0 lg fd pl0' kd0 fl B0 A0) :
    Calls Tryz.prog 55 #[.pointer (some ⟨t, 0, none⟩)] w fun e w' => e = .returned (.pointer (some ⟨t, 3, none⟩)) ∧ ∃ S pl kd B A, TR w' t l l.length gs S lg fd pl kd fl B A ∧ KA w w' A0 A := by
  have hmxo : Tryz.prog.follows .mixedOrders = true := by kernel_rfl
  obtain ⟨a, c, hlg, _⟩ := own_pp h0.row
  have hln := h0.len
  have hsm := h0.small
  rw [hln] at hlg
  obtain ⟨n, hn⟩ : ∃ n, n = l.length := ⟨_, rfl⟩
  rw [← hn] at hlg hsm ⊢
  have HN := hid hn
  have HL := hid hln
  have H0 := hid h0
  have HLG := hid hlg
  clear hn hln h0 hlg
  go_enter Tryz.func55, Tryz.ntmps55
  go_wp2_with fail
  go_loopw [] (fun wr => ∃ (k : Nat) (S : List Sp) (pl kd : Value) (B A : Nat → Prop), Hid (TR wr t l k gs S lg fd pl kd fl B A) ∧ Hid (KA w wr A0 A)) (fun wr => nowM t n wr)
  case atStart => exact ⟨k0, S0, pl0', kd0, B0, A0, H0, hid ⟨Nat.le_refl _, fun _ _ _ => rfl, fun j hj => Or.inl hj, Sm.refl _⟩⟩
  case round =>
    obtain ⟨k, S, pl, kd, B, A, HT, HK⟩ := hrel
    have hkn : k ≤ n := by rw [HN.out]; exact HT.out.le
    have htb := HT.out.tb
    rw [HLG.out] at htb
    have hS3 : wr.drew.cell? ⟨t, 2, none⟩ = some (.int .i64 (k : Int)) ∧ wr.drew.cell? ⟨t, 0, none⟩ = some (.slice a n c) := by
      unfold TB at htb
      exact ⟨by show wr.cell? _ = _; simp [World.cell?, htb], by show wr.cell? _ = _; simp [World.cell?, htb]⟩
    by_cases hlt : k < n
    · obtain ⟨g, hg⟩ : ∃ g, gs[k]? = some g := ⟨_, List.getElem?_eq_getElem (by rw [HL.out, ← HN.out]; exact hlt)⟩
      obtain ⟨m, hm⟩ : ∃ m, l[k]? = some m := ⟨_, List.getElem?_eq_getElem (by rw [← HN.out]; exact hlt)⟩
      obtain ⟨rb, ro, ha, hc4⟩ : ∃ rb ro, a = some ⟨rb, ro, none⟩ ∧ wr.cell? ⟨rb, ro + k, none⟩ = some (.pointer (some ⟨g, 0, none⟩)) := by
        obtain ⟨a', c', e', hpp⟩ := own_pp HT.out.row
        rw [HLG.out] at e'
        cases e'
        obtain ⟨rb, ro, e1, _, e2⟩ := hpp.at_ (by rw [HL.out, ← HN.out]; omega)
        have hkg : k < gs.length := by rw [HL.out, ← HN.out]; exact hlt
        have := e2 k hkg
        rw [List.getElem?_eq_getElem hkg] at hg
        rw [Option.some.inj hg] at this
        exact ⟨rb, ro, e1, this⟩
      subst ha
      have hS4 : wr.drew.drew.cell? ⟨t, 2, none⟩ = some (.int .i64 (k : Int)) ∧ wr.drew.drew.cell? ⟨t, 0, none⟩ = some (.slice (some ⟨rb, ro, none⟩) n c) ∧ wr.drew.drew.cell? ⟨rb, ro + k, none⟩ = some (.pointer (some ⟨g, 0, none⟩)) := ⟨hS3.1, hS3.2, hc4⟩
      have HDo : Hid (Calls Tryz.prog 92 #[.pointer (some ⟨t, 3, none⟩), .pointer (some ⟨g, 0, none⟩)] wr.drew.drew fun e w' => e = .returned (.tuple #[]) ∧ (w'.cell? ⟨t, 2, none⟩ = some (.int .i64 (k : Int)) ∧ w'.cell? ⟨t, 0, none⟩ = some (.slice (some ⟨rb, ro, none⟩) n c) ∧ w'.cell? ⟨rb, ro + k, none⟩ = some (.pointer (some ⟨g, 0, none⟩))) ∧ w'.frozen? ⟨t, 2, none⟩ = false ∧ Hid (∃ pl' kd' B' A', TR (w'.setCell ⟨t, 2, none⟩ (.int .i64 ((k + 1 : Nat) : Int))) t l (k + 1) gs (step S m) lg fd pl' kd' fl B' A' ∧ KA w (w'.setCell ⟨t, 2, none⟩ (.int .i64 ((k + 1 : Nat) : Int))) A0 A')) := hid (by
        have h1 : TR wr.drew.drew t l k gs S lg fd pl kd fl B A := HT.out.same (Nat.le_refl _) (fun j _ => rfl)
        have hK1 : KA w wr.drew.drew A0 A := ⟨HK.out.size, HK.out.keep, HK.out.new, HK.out.sm⟩
        obtain ⟨r, hr⟩ := h1.tk
        obtain ⟨s1, s2, s3⟩ := h1.spots
        obtain ⟨tk, o, hE, _⟩ := h1.en k g m hg hm
        have hml := List.mem_of_getElem? hm
        have hgl := List.mem_of_getElem? hg
        refine (do_any t g lg fd (.int .i64 (k : Int)) pl kd S r B m tk (o.getD pl0) wr.drew.drew hr h1.tb h1.sb hE h1.bt (h1.bg g hgl) h1.bs s1 s2 (h1.log.may m hml).2 (h1.dw m hml).2.1 (h1.dw m hml).2.2 (by omega)).mono ?_
        rintro e w' ⟨rfl, pl', kd', hT', hS', hE', hKB⟩
        have hN := h1.next hg hm hT' hS' hE' hKB
        have hT'' := hT'
        rw [HLG.out] at hT''
        unfold TB at hT''
        have hz := hKB.size
        have hrbA : A rb := h1.al rb (by rw [HLG.out]; rfl)
        have hrbw := h1.as_ rb hrbA
        have hrb : w'.heap[rb]? = wr.heap[rb]? := by
          have hB : ¬ B rb := h1.bl rb (by rw [HLG.out]; rfl)
          obtain ⟨cs, hcs⟩ : ∃ cs, wr.drew.drew.heap[rb]? = some (.cells cs 136 (0, 0)) := by
            have h7 := h1.row
            rw [HLG.out] at h7
            rcases h7.2 with ⟨e, _⟩ | ⟨g', cap, cur, e, hb, hgg, _⟩
            · simp at e
            · simp only [Value.slice.injEq, Option.some.injEq, Addr.mk.injEq] at e
              exact ⟨cur, by rw [e.1.1]; exact hgg⟩
          refine hKB.keep rb hrbw (fun e => ?_) (fun e => ?_)
          · rcases e with e | e
            · exact hB e
            · unfold EN at hE
              rw [← e, hcs] at hE
              simp at hE
          · have h8 := h1.tb
            unfold TB at h8
            rw [← e, hcs] at h8
            simp at h8
        refine ⟨rfl, ⟨by simp [World.cell?, hT''], by simp [World.cell?, hT''], ?_⟩, by simp [World.frozen?, hT''], hid ⟨pl', kd', _, _, hN, hK1.trans ⟨?_, fun j hj hA => ?_, fun j hj => ?_, hKB.sm.trans (Sm.g (grownBy_setCell w' t 2 _))⟩⟩⟩
        · simp only [World.cell?, hrb]
          exact hc4
        · exact Nat.le_trans hz (grownBy_setCell w' t 2 _).size
        · have hjt : j ≠ t := fun e => hA (e ▸ h1.at_)
          exact ((grownBy_setCell w' t 2 _).block j (by omega) (by simpa using hjt)).trans (hKB.keep j hj (fun e => by
            rcases e with e | e
            · exact hA (h1.ab j e)
            · exact hA (e ▸ h1.ag g hgl)) hjt)
        · rcases hj with hj | hj
          · exact Or.inl hj
          · exact Or.inr hj.1)
      have hb : decide ((k : Int) < (n : Int)) = true := by simpa using hlt
      have hm0 : Hid (nowM t n wr = n - k) := hid (by
        have : wr.cell? ⟨t, 2, none⟩ = some (.int .i64 (k : Int)) := hS3.1
        unfold nowM
        rw [this]
        simp)
      have hwr : IntKind.i64.wrap ((k : Int) + 1) = ((k + 1 : Nat) : Int) := by rw [IntKind.wrap_i64]; omega
      clear htb
      go_wp2_with fail
      refine wp_region_held_drew (S := fun w' => w'.cell? ⟨t, 2, none⟩ = some (.int .i64 (k : Int)) ∧ w'.cell? ⟨t, 0, none⟩ = some (.slice (some ⟨rb, ro, none⟩) n c)) hmxo hS3 ?_
      intro _
      refine wpAnyH_take (i := 0) (v := .pointer (some ⟨t, 0, none⟩)) rfl (by kernel_rfl) (by kernel_rfl) (by kernel_rfl) (fun _ _ _ h => h) (Or.inl ⟨by kernel_rfl, fun w hSw => ?_⟩) hS3 ?_
      · obtain ⟨e1, e2⟩ := hSw; go_simp
      simp only [Act.put, List.getElem_toArray, List.getElem_cons_succ, List.getElem_cons_zero, List.setIfInBounds_toArray, List.set_cons_zero, List.set_cons_succ]
      refine wpAnyH_take (i := 1) (v := .pointer (some ⟨t, 0, none⟩)) rfl (by kernel_rfl) (by kernel_rfl) (by kernel_rfl) (fun _ _ _ h => h) (Or.inl ⟨by kernel_rfl, fun w hSw => ?_⟩) hS3 ?_
      · obtain ⟨e1, e2⟩ := hSw; go_simp
      simp only [Act.put, List.getElem_toArray, List.getElem_cons_succ, List.getElem_cons_zero, List.setIfInBounds_toArray, List.set_cons_zero, List.set_cons_succ]
      refine wpAnyH_take (i := 2) (v := .pointer (some ⟨t, 2, none⟩)) rfl (by kernel_rfl) (by kernel_rfl) (by kernel_rfl) (fun _ _ _ h => h) (Or.inl ⟨by kernel_rfl, fun w hSw => ?_⟩) hS3 ?_
      · obtain ⟨e1, e2⟩ := hSw; go_simp
      simp only [Act.put, List.getElem_toArray, List.getElem_cons_succ, List.getElem_cons_zero, List.setIfInBounds_toArray, List.set_cons_zero, List.set_cons_succ]
      refine wpAnyH_take (i := 3) (v := .int .i64 (k : Int)) rfl (by kernel_rfl) (by kernel_rfl) (by kernel_rfl) (fun _ _ _ h => h) (Or.inl ⟨by kernel_rfl, fun w hSw => ?_⟩) hS3 ?_
      · obtain ⟨e1, e2⟩ := hSw; go_simp
      simp only [Act.put, List.getElem_toArray, List.getElem_cons_succ, List.getElem_cons_zero, List.setIfInBounds_toArray, List.set_cons_zero, List.set_cons_succ]
      refine wpAnyH_take (i := 4) (v := .pointer (some ⟨t, 0, none⟩)) rfl (by kernel_rfl) (by kernel_rfl) (by kernel_rfl) (fun _ _ _ h => h) (Or.inl ⟨by kernel_rfl, fun w hSw => ?_⟩) hS3 ?_
      · obtain ⟨e1, e2⟩ := hSw; go_simp
      simp only [Act.put, List.getElem_toArray, List.getElem_cons_succ, List.getElem_cons_zero, List.setIfInBounds_toArray, List.set_cons_zero, List.set_cons_succ]
      refine wpAnyH_take (i := 5) (v := .pointer (some ⟨t, 0, none⟩)) rfl (by kernel_rfl) (by kernel_rfl) (by kernel_rfl) (fun _ _ _ h => h) (Or.inl ⟨by kernel_rfl, fun w hSw => ?_⟩) hS3 ?_
      · obtain ⟨e1, e2⟩ := hSw; go_simp
      simp only [Act.put, List.getElem_toArray, List.getElem_cons_succ, List.getElem_cons_zero, List.setIfInBounds_toArray, List.set_cons_zero, List.set_cons_succ]
      refine wpAnyH_take (i := 6) (v := .pointer (some ⟨t, 0, none⟩)) rfl (by kernel_rfl) (by kernel_rfl) (by kernel_rfl) (fun _ _ _ h => h) (Or.inl ⟨by kernel_rfl, fun w hSw => ?_⟩) hS3 ?_
      · obtain ⟨e1, e2⟩ := hSw; go_simp
      simp only [Act.put, List.getElem_toArray, List.getElem_cons_succ, List.getElem_cons_zero, List.setIfInBounds_toArray, List.set_cons_zero, List.set_cons_succ]
      refine wpAnyH_take (i := 7) (v := .slice (some ⟨rb, ro, none⟩) n c) rfl (by kernel_rfl) (by kernel_rfl) (by kernel_rfl) (fun _ _ _ h => h) (Or.inl ⟨by kernel_rfl, fun w hSw => ?_⟩) hS3 ?_
      · obtain ⟨e1, e2⟩ := hSw; go_simp
      simp only [Act.put, List.getElem_toArray, List.getElem_cons_succ, List.getElem_cons_zero, List.setIfInBounds_toArray, List.set_cons_zero, List.set_cons_succ]
      refine wpAnyH_take (i := 8) (v := .int .i64 (n : Int)) rfl (by kernel_rfl) (by kernel_rfl) (by kernel_rfl) (fun _ _ _ h => h) (Or.inl ⟨by kernel_rfl, fun w hSw => ?_⟩) hS3 ?_
      · obtain ⟨e1, e2⟩ := hSw; go_simp
      simp only [Act.put, List.getElem_toArray, List.getElem_cons_succ, List.getElem_cons_zero, List.setIfInBounds_toArray, List.set_cons_zero, List.set_cons_succ]
      refine wpAnyH_take (i := 9) (v := .bool true) rfl (by kernel_rfl) (by kernel_rfl) (by kernel_rfl) (fun _ _ _ h => h) (Or.inl ⟨by kernel_rfl, fun w hSw => ?_⟩) hS3 ?_
      · obtain ⟨e1, e2⟩ := hSw; go_simp
      simp only [Act.put, List.getElem_toArray, List.getElem_cons_succ, List.getElem_cons_zero, List.setIfInBounds_toArray, List.set_cons_zero, List.set_cons_succ]
      refine wpAnyH_done (by kernel_rfl) ?_ _
      go_wp2_with fail
      refine wp_region_held_drew (S := fun w' => w'.cell? ⟨t, 2, none⟩ = some (.int .i64 (k : Int)) ∧ w'.cell? ⟨t, 0, none⟩ = some (.slice (some ⟨rb, ro, none⟩) n c) ∧ w'.cell? ⟨rb, ro + k, none⟩ = some (.pointer (some ⟨g, 0, none⟩))) hmxo hS4 ?_
      intro _
      refine wpAnyH_take (i := 0) (v := .pointer (some ⟨t, 0, none⟩)) rfl (by kernel_rfl) (by kernel_rfl) (by kernel_rfl) (fun _ _ _ h => h) (Or.inl ⟨by kernel_rfl, fun w hSw => ?_⟩) hS4 ?_
      · obtain ⟨e1, e2, e3⟩ := hSw; go_simp
      simp only [Act.put, List.getElem_toArray, List.getElem_cons_succ, List.getElem_cons_zero, List.setIfInBounds_toArray, List.set_cons_zero, List.set_cons_succ]
      refine wpAnyH_take (i := 1) (v := .pointer (some ⟨t, 0, none⟩)) rfl (by kernel_rfl) (by kernel_rfl) (by kernel_rfl) (fun _ _ _ h => h) (Or.inl ⟨by kernel_rfl, fun w hSw => ?_⟩) hS4 ?_
      · obtain ⟨e1, e2, e3⟩ := hSw; go_simp
      simp only [Act.put, List.getElem_toArray, List.getElem_cons_succ, List.getElem_cons_zero, List.setIfInBounds_toArray, List.set_cons_zero, List.set_cons_succ]
      refine wpAnyH_take (i := 2) (v := .pointer (some ⟨t, 3, none⟩)) rfl (by kernel_rfl) (by kernel_rfl) (by kernel_rfl) (fun _ _ _ h => h) (Or.inl ⟨by kernel_rfl, fun w hSw => ?_⟩) hS4 ?_
      · obtain ⟨e1, e2, e3⟩ := hSw; go_simp
      simp only [Act.put, List.getElem_toArray, List.getElem_cons_succ, List.getElem_cons_zero, List.setIfInBounds_toArray, List.set_cons_zero, List.set_cons_succ]
      refine wpAnyH_take (i := 3) (v := .pointer (some ⟨t, 0, none⟩)) rfl (by kernel_rfl) (by kernel_rfl) (by kernel_rfl) (fun _ _ _ h => h) (Or.inl ⟨by kernel_rfl, fun w hSw => ?_⟩) hS4 ?_
      · obtain ⟨e1, e2, e3⟩ := hSw; go_simp
      simp only [Act.put, List.getElem_toArray, List.getElem_cons_succ, List.getElem_cons_zero, List.setIfInBounds_toArray, List.set_cons_zero, List.set_cons_succ]
      refine wpAnyH_take (i := 4) (v := .pointer (some ⟨t, 0, none⟩)) rfl (by kernel_rfl) (by kernel_rfl) (by kernel_rfl) (fun _ _ _ h => h) (Or.inl ⟨by kernel_rfl, fun w hSw => ?_⟩) hS4 ?_
      · obtain ⟨e1, e2, e3⟩ := hSw; go_simp
      simp only [Act.put, List.getElem_toArray, List.getElem_cons_succ, List.getElem_cons_zero, List.setIfInBounds_toArray, List.set_cons_zero, List.set_cons_succ]
      refine wpAnyH_take (i := 5) (v := .pointer (some ⟨t, 0, none⟩)) rfl (by kernel_rfl) (by kernel_rfl) (by kernel_rfl) (fun _ _ _ h => h) (Or.inl ⟨by kernel_rfl, fun w hSw => ?_⟩) hS4 ?_
      · obtain ⟨e1, e2, e3⟩ := hSw; go_simp
      simp only [Act.put, List.getElem_toArray, List.getElem_cons_succ, List.getElem_cons_zero, List.setIfInBounds_toArray, List.set_cons_zero, List.set_cons_succ]
      refine wpAnyH_take (i := 6) (v := .slice (some ⟨rb, ro, none⟩) n c) rfl (by kernel_rfl) (by kernel_rfl) (by kernel_rfl) (fun _ _ _ h => h) (Or.inl ⟨by kernel_rfl, fun w hSw => ?_⟩) hS4 ?_
      · obtain ⟨e1, e2, e3⟩ := hSw; go_simp
      simp only [Act.put, List.getElem_toArray, List.getElem_cons_succ, List.getElem_cons_zero, List.setIfInBounds_toArray, List.set_cons_zero, List.set_cons_succ]
      refine wpAnyH_take (i := 7) (v := .pointer (some ⟨t, 0, none⟩)) rfl (by kernel_rfl) (by kernel_rfl) (by kernel_rfl) (fun _ _ _ h => h) (Or.inl ⟨by kernel_rfl, fun w hSw => ?_⟩) hS4 ?_
      · obtain ⟨e1, e2, e3⟩ := hSw; go_simp
      simp only [Act.put, List.getElem_toArray, List.getElem_cons_succ, List.getElem_cons_zero, List.setIfInBounds_toArray, List.set_cons_zero, List.set_cons_succ]
      refine wpAnyH_take (i := 8) (v := .pointer (some ⟨t, 0, none⟩)) rfl (by kernel_rfl) (by kernel_rfl) (by kernel_rfl) (fun _ _ _ h => h) (Or.inl ⟨by kernel_rfl, fun w hSw => ?_⟩) hS4 ?_
      · obtain ⟨e1, e2, e3⟩ := hSw; go_simp
      simp only [Act.put, List.getElem_toArray, List.getElem_cons_succ, List.getElem_cons_zero, List.setIfInBounds_toArray, List.set_cons_zero, List.set_cons_succ]
      refine wpAnyH_take (i := 9) (v := .pointer (some ⟨t, 2, none⟩)) rfl (by kernel_rfl) (by kernel_rfl) (by kernel_rfl) (fun _ _ _ h => h) (Or.inl ⟨by kernel_rfl, fun w hSw => ?_⟩) hS4 ?_
      · obtain ⟨e1, e2, e3⟩ := hSw; go_simp
      simp only [Act.put, List.getElem_toArray, List.getElem_cons_succ, List.getElem_cons_zero, List.setIfInBounds_toArray, List.set_cons_zero, List.set_cons_succ]
      refine wpAnyH_take (i := 10) (v := .int .i64 (k : Int)) rfl (by kernel_rfl) (by kernel_rfl) (by kernel_rfl) (fun _ _ _ h => h) (Or.inl ⟨by kernel_rfl, fun w hSw => ?_⟩) hS4 ?_
      · obtain ⟨e1, e2, e3⟩ := hSw; go_simp
      simp only [Act.put, List.getElem_toArray, List.getElem_cons_succ, List.getElem_cons_zero, List.setIfInBounds_toArray, List.set_cons_zero, List.set_cons_succ]
      refine wpAnyH_take (i := 11) (v := .pointer (some ⟨rb, ro + k, none⟩)) rfl (by kernel_rfl) (by kernel_rfl) (by kernel_rfl) (fun _ _ _ h => h) (Or.inl ⟨by kernel_rfl, fun w hSw => ?_⟩) hS4 ?_
      · obtain ⟨e1, e2, e3⟩ := hSw; go_simp
      simp only [Act.put, List.getElem_toArray, List.getElem_cons_succ, List.getElem_cons_zero, List.setIfInBounds_toArray, List.set_cons_zero, List.set_cons_succ]
      refine wpAnyH_take (i := 12) (v := .pointer (some ⟨g, 0, none⟩)) rfl (by kernel_rfl) (by kernel_rfl) (by kernel_rfl) (fun _ _ _ h => h) (Or.inl ⟨by kernel_rfl, fun w hSw => ?_⟩) hS4 ?_
      · obtain ⟨e1, e2, e3⟩ := hSw; go_simp
      simp only [Act.put, List.getElem_toArray, List.getElem_cons_succ, List.getElem_cons_zero, List.setIfInBounds_toArray, List.set_cons_zero, List.set_cons_succ]
      refine wpAnyH_ready (rs := [13]) (by kernel_rfl) (by simp) ?_
      refine AllReadyH.cons rfl (fun K hK => ?_) AllReadyH.nil
      go_simp
      refine HDo.out.mono ?_
      rintro e W5 ⟨rfl, S5, z5, HF⟩
      refine hK.out _ _ S5 (fun _ => ?_)
      clear hK K
      refine wpAnyH_done (by kernel_rfl) ?_ _
      obtain ⟨s50, s51, s52⟩ := S5
      clear HDo hS3 hS4 HT HK
      go_wp2
      go_roundw
      case rel =>
        obtain ⟨pl', kd', B', A', h7, h8⟩ := HF.out
        exact ⟨k + 1, _, pl', kd', B', A', hid h7, hid h8⟩
      case measure =>
        obtain ⟨pl', kd', B', A', h7, h8⟩ := HF.out
        have h9 := h7.tb
        unfold TB at h9
        have h10 : (W5.setCell ⟨t, 2, none⟩ (.int .i64 ((k + 1 : Nat) : Int))).cell? ⟨t, 2, none⟩ = some (.int .i64 ((k + 1 : Nat) : Int)) := by simp only [World.cell?]; rw [h9]; rfl
        show nowM t n (W5.setCell ⟨t, 2, none⟩ (.int .i64 ((k + 1 : Nat) : Int))) < nowM t n wr
        rw [hm0.out]
        unfold nowM
        rw [h10]
        show n - ((k + 1 : Nat) : Int).toNat < n - k
        omega
    · have hkn' : k = n := by omega
      subst hkn'
      have hb : decide ((k : Int) < (k : Int)) = false := by simp
      clear htb
      go_wp2_with fail
      refine wp_region_held_drew (S := fun w' => w'.cell? ⟨t, 2, none⟩ = some (.int .i64 (k : Int)) ∧ w'.cell? ⟨t, 0, none⟩ = some (.slice a k c)) hmxo hS3 ?_
      intro _
      refine wpAnyH_take (i := 0) (v := .pointer (some ⟨t, 0, none⟩)) rfl (by kernel_rfl) (by kernel_rfl) (by kernel_rfl) (fun _ _ _ h => h) (Or.inl ⟨by kernel_rfl, fun w hSw => ?_⟩) hS3 ?_
      · obtain ⟨e1, e2⟩ := hSw; go_simp
      simp only [Act.put, List.getElem_toArray, List.getElem_cons_succ, List.getElem_cons_zero, List.setIfInBounds_toArray, List.set_cons_zero, List.set_cons_succ]
      refine wpAnyH_take (i := 1) (v := .pointer (some ⟨t, 0, none⟩)) rfl (by kernel_rfl) (by kernel_rfl) (by kernel_rfl) (fun _ _ _ h => h) (Or.inl ⟨by kernel_rfl, fun w hSw => ?_⟩) hS3 ?_
      · obtain ⟨e1, e2⟩ := hSw; go_simp
      simp only [Act.put, List.getElem_toArray, List.getElem_cons_succ, List.getElem_cons_zero, List.setIfInBounds_toArray, List.set_cons_zero, List.set_cons_succ]
      refine wpAnyH_take (i := 2) (v := .pointer (some ⟨t, 2, none⟩)) rfl (by kernel_rfl) (by kernel_rfl) (by kernel_rfl) (fun _ _ _ h => h) (Or.inl ⟨by kernel_rfl, fun w hSw => ?_⟩) hS3 ?_
      · obtain ⟨e1, e2⟩ := hSw; go_simp
      simp only [Act.put, List.getElem_toArray, List.getElem_cons_succ, List.getElem_cons_zero, List.setIfInBounds_toArray, List.set_cons_zero, List.set_cons_succ]
      refine wpAnyH_take (i := 3) (v := .int .i64 (k : Int)) rfl (by kernel_rfl) (by kernel_rfl) (by kernel_rfl) (fun _ _ _ h => h) (Or.inl ⟨by kernel_rfl, fun w hSw => ?_⟩) hS3 ?_
      · obtain ⟨e1, e2⟩ := hSw; go_simp
      simp only [Act.put, List.getElem_toArray, List.getElem_cons_succ, List.getElem_cons_zero, List.setIfInBounds_toArray, List.set_cons_zero, List.set_cons_succ]
      refine wpAnyH_take (i := 4) (v := .pointer (some ⟨t, 0, none⟩)) rfl (by kernel_rfl) (by kernel_rfl) (by kernel_rfl) (fun _ _ _ h => h) (Or.inl ⟨by kernel_rfl, fun w hSw => ?_⟩) hS3 ?_
      · obtain ⟨e1, e2⟩ := hSw; go_simp
      simp only [Act.put, List.getElem_toArray, List.getElem_cons_succ, List.getElem_cons_zero, List.setIfInBounds_toArray, List.set_cons_zero, List.set_cons_succ]
      refine wpAnyH_take (i := 5) (v := .pointer (some ⟨t, 0, none⟩)) rfl (by kernel_rfl) (by kernel_rfl) (by kernel_rfl) (fun _ _ _ h => h) (Or.inl ⟨by kernel_rfl, fun w hSw => ?_⟩) hS3 ?_
      · obtain ⟨e1, e2⟩ := hSw; go_simp
      simp only [Act.put, List.getElem_toArray, List.getElem_cons_succ, List.getElem_cons_zero, List.setIfInBounds_toArray, List.set_cons_zero, List.set_cons_succ]
      refine wpAnyH_take (i := 6) (v := .pointer (some ⟨t, 0, none⟩)) rfl (by kernel_rfl) (by kernel_rfl) (by kernel_rfl) (fun _ _ _ h => h) (Or.inl ⟨by kernel_rfl, fun w hSw => ?_⟩) hS3 ?_
      · obtain ⟨e1, e2⟩ := hSw; go_simp
      simp only [Act.put, List.getElem_toArray, List.getElem_cons_succ, List.getElem_cons_zero, List.setIfInBounds_toArray, List.set_cons_zero, List.set_cons_succ]
      refine wpAnyH_take (i := 7) (v := .slice a k c) rfl (by kernel_rfl) (by kernel_rfl) (by kernel_rfl) (fun _ _ _ h => h) (Or.inl ⟨by kernel_rfl, fun w hSw => ?_⟩) hS3 ?_
      · obtain ⟨e1, e2⟩ := hSw; go_simp
      simp only [Act.put, List.getElem_toArray, List.getElem_cons_succ, List.getElem_cons_zero, List.setIfInBounds_toArray, List.set_cons_zero, List.set_cons_succ]
      refine wpAnyH_take (i := 8) (v := .int .i64 (k : Int)) rfl (by kernel_rfl) (by kernel_rfl) (by kernel_rfl) (fun _ _ _ h => h) (Or.inl ⟨by kernel_rfl, fun w hSw => ?_⟩) hS3 ?_
      · obtain ⟨e1, e2⟩ := hSw; go_simp
      simp only [Act.put, List.getElem_toArray, List.getElem_cons_succ, List.getElem_cons_zero, List.setIfInBounds_toArray, List.set_cons_zero, List.set_cons_succ]
      refine wpAnyH_take (i := 9) (v := .bool false) rfl (by kernel_rfl) (by kernel_rfl) (by kernel_rfl) (fun _ _ _ h => h) (Or.inl ⟨by kernel_rfl, fun w hSw => ?_⟩) hS3 ?_
      · obtain ⟨e1, e2⟩ := hSw; go_simp
      simp only [Act.put, List.getElem_toArray, List.getElem_cons_succ, List.getElem_cons_zero, List.setIfInBounds_toArray, List.set_cons_zero, List.set_cons_succ]
      refine wpAnyH_done (by kernel_rfl) ?_ _
      go_wp2
      go_ret
      exact ⟨rfl, S, pl, kd, B, A, HT.out.same (Nat.le_refl _) (fun j _ => rfl), HK.out.size, HK.out.keep, HK.out.new, HK.out.sm⟩
end

section
set_option linter.unusedVariables false
open Go.RowKit

/-- Ahead of undo: one fewer is told to be done. -/
theorem TR.told {w : World} {t : Nat} {l : List Mv} {k : Nat} {gs : List Nat} {S : List Sp} {lg fd pl kd : Value} {fl : List (Mv × Nat)} {B A : Nat → Prop} (h : TR w t l (k + 1) gs S lg fd pl kd fl B A) :
    TB (w.setCell ⟨t, 2, none⟩ (.int .i64 (k : Int))) t lg fd (.int .i64 (k : Int)) pl kd ∧ w.grownBy (w.setCell ⟨t, 2, none⟩ (.int .i64 (k : Int))) (some t) := by
  have h2 := set_blk (j := 2) h.tb (.int .i64 (k : Int))
  refine ⟨?_, grownBy_setCell w t 2 _⟩
  unfold TB
  simpa using h2

/-- What lay somewhere: under a dot of numbers as they are, and no Dot{}. -/
theorem TR.was {w : World} {t : Nat} {l : List Mv} {k : Nat} {gs : List Nat} {S : List Sp} {lg fd pl kd : Value} {fl : List (Mv × Nat)} {B A : Nat → Prop} (h : TR w t l k gs S lg fd pl kd fl B A) (i : Nat) (b : Dt) : ∀ q, lk (run (l.take i)) b = some q → Dw q.1 ∧ q.1 ≠ (0, 0) := fun q hq => by
  obtain ⟨r, hr⟩ := h.log.tk i
  refine ⟨?_, was_nz hr hq⟩
  obtain ⟨s, hs, _, e⟩ := lk_some hq
  obtain ⟨m, hm, rfl⟩ := run_mem hs
  have := (h.dw m (List.mem_of_mem_take hm)).2.2
  rw [← e]
  exact this

theorem TR.prev {w w' : World} {t : Nat} {l : List Mv} {k : Nat} {gs : List Nat} {S : List Sp} {lg fd pl kd pl' kd' : Value} {fl : List (Mv × Nat)} {B A : Nat → Prop} (h : TR w t l (k + 1) gs S lg fd pl kd fl B A) {g : Nat} {m : Mv} {T : Bool} {o : Option Pl} (hg : gs[k]? = some g) (hm : l[k]? = some m) (hTo : T = takes (run (l.take k)) m) (hoo : o = lk (run (l.take k)) m.block)
    (hT : TB w' t lg fd (.int .i64 (k : Int)) pl' kd') (hS : SB w' pl' kd' (undS S m.block T o) (Bn w w' B)) (hE : EN w' g m T (Option.getD o pl0)) (hz : w.heap.size ≤ w'.heap.size) (hK : ∀ j, j < w.heap.size → ¬ B j → j ≠ t → w'.heap[j]? = w.heap[j]?) :
    TR w' t l k gs (undS S m.block T o) lg fd pl' kd' fl (Bn w w' B) (Bn w w' A) := by
  have hkl : k < l.length := (List.getElem?_eq_some_iff.1 hm).1
  have htw : t < w.heap.size := h.as_ t h.at_
  have hes : ∀ j (x : Mv) tk q, EN w j x tk q → j ≠ t := fun j x tk q he e => by
    have h1 := h.tb
    unfold TB at h1
    unfold EN at he
    rw [← e, he] at h1
    simp at h1
  have hlb : ∀ j, lg.ownBlock = some j → j ≠ t := fun j hj e2 => by
    rcases h.row.2 with ⟨e, _⟩ | ⟨g', cap, cur, e, hb, hgg, hn, hc, hs, ht⟩
    · rw [e] at hj; simp [Value.ownBlock] at hj
    · rw [e] at hj
      simp only [Value.ownBlock, Option.some.injEq] at hj
      subst hj
      have h1 := h.tb
      unfold TB at h1
      rw [← e2, hgg] at h1
      simp at h1
  have hp : (undS S m.block T o).Perm (run (l.take k)) := by
    cases hc : T with
    | true =>
      have := undo_perm h.log hm h.perm (hTo.symm.trans hc)
      rw [← hoo] at this
      exact this
    | false => exact undo_no hm h.perm (hTo.symm.trans hc)
  refine ⟨hT, erow_kept h.row (fun j hj => hK j (h.as_ j (h.al j hj)) (h.bl j hj) (hlb j hj)), h.len, h.nd, fun i g' m' h1 h2 => ?_, by omega, hS, hp, h.log, h.dw, Bn.lt h.bs hz, Bn.not h.bt htw, fun x hx => Bn.not (h.bg x hx) (h.as_ x (h.ag x hx)), fun j hj => Bn.not (h.bl j hj) (h.as_ j (h.al j hj)), ?_, h.small, fun j hj => hj.imp (h.ab j) id, Or.inl h.at_, fun x hx => Or.inl (h.ag x hx), fun j hj => Or.inl (h.al j hj), Bn.lt h.as_ hz⟩
  · obtain ⟨tk, o', h3, h4⟩ := h.en i g' m' h1 h2
    exact ⟨tk, o', (hK g' (h.as_ g' (h.ag g' (List.mem_of_getElem? h1))) (h.bg g' (List.mem_of_getElem? h1)) (hes g' m' tk _ h3)).trans h3, fun hi => h4 (by omega)⟩
  · rcases h.fnd with h1 | ⟨fm, G, h1, h2, h3, h4, h5, h6⟩
    · exact Or.inl h1
    · refine Or.inr ⟨fm, G, h1, Bn.not h2 h4.lt, Or.inl h3, h4.same (hK fm h4.lt h2 (fun e => ?_)), h5, h6⟩
      obtain ⟨D, ho, _⟩ := h4
      exact map_cells ho h.tb e.symm
end

section
set_option linter.unusedVariables false
open Go.RowKit

/-- The blocks of the entries, with one more at its place. -/
def insG (l : List Mv) (gs : List Nat) (m : Mv) (ge : Nat) : List Nat := gs.take (rkL mvl l m) ++ ge :: gs.drop (rkL mvl l m)

theorem ins_get {α : Type} (xs : List α) (x : α) (r : Nat) (hr : r ≤ xs.length) (i : Nat) : (xs.take r ++ x :: xs.drop r)[i]? = if i < r then xs[i]? else if i = r then some x else xs[i - 1]? := by
  have hl : (xs.take r).length = r := by rw [List.length_take]; omega
  by_cases h1 : i < r
  · rw [if_pos h1, List.getElem?_append_left (by omega), List.getElem?_take, if_pos h1]
  · rw [if_neg h1, List.getElem?_append_right (by omega), hl]
    by_cases h2 : i = r
    · subst h2
      simp
    · rw [if_neg h2]
      obtain ⟨j, hj⟩ : ∃ j, i - r = j + 1 := ⟨i - r - 1, by omega⟩
      rw [hj, List.getElem?_cons_succ, List.getElem?_drop]
      congr 1
      omega

theorem TR.put {w W6 : World} {t : Nat} {l : List Mv} {k : Nat} {gs : List Nat} {S : List Sp} {lg lg' fd pl kd : Value} {fl : List (Mv × Nat)} {B A : Nat → Prop} (h : TR w t l k gs S lg fd pl kd fl B A) {ge rg c : Nat} {m : Mv} {tk : Bool} {q : Pl} (hk : k ≤ rkL mvl l m) (hE : EN w ge m tk (Option.getD (some q) pl0)) (hgA : ¬ A ge) (hgw : ge < w.heap.size)
    (hf : ∀ x ∈ l, x.id ≠ m.id) (hb : m.block ≠ (0, 0) ∧ ¬ isEnd m.block) (hi : m.id ≠ (0, 0) ∧ ¬ isEnd m.id) (hd : Dw m.id ∧ Dw m.block ∧ Dw m.parent) (hs : l.length + 1 ≤ 1000)
    (hz : w.heap.size ≤ W6.heap.size) (hT6 : TB W6 t lg' fd (.int .i64 (k : Int)) pl kd) (hr6 : W6.ownsRow 0 136 1 lg' (gs.length + 1) (prow (insG l gs m ge))) (hlg : lg' = .slice (some ⟨rg, 0, none⟩) (gs.length + 1) c) (hrg : lg.ownBlock = some rg ∨ w.heap.size ≤ rg)
    (hK : ∀ j, j < w.heap.size → j ≠ t → lg.ownBlock ≠ some j → W6.heap[j]? = w.heap[j]?) :
    TR W6 t (insL mvl l m) k (insG l gs m ge) S lg' fd pl kd fl B (fun j => A j ∨ j = ge ∨ j = rg) := by
  have hrl := rk_le mvl l m
  have hgl : (insG l gs m ge).length = gs.length + 1 := by
    unfold insG
    rw [List.length_append, List.length_cons, List.length_take, List.length_drop]
    have := h.len
    omega
  have hlb : ∀ j, lg.ownBlock = some j → ∃ cs, w.heap[j]? = some (.cells cs 136 (0, 0)) := fun j hj => by
    rcases h.row.2 with ⟨e, _⟩ | ⟨g', cap, cur, e, hb, hgg, hn, hc, hs, ht⟩
    · rw [e] at hj; simp [Value.ownBlock] at hj
    · rw [e] at hj
      simp only [Value.ownBlock, Option.some.injEq] at hj
      subst hj
      exact ⟨cur, hgg⟩
  have hen : ∀ j (x : Mv) tk q, EN w j x tk q → j ≠ t ∧ lg.ownBlock ≠ some j := fun j x tk q he => by
    unfold EN at he
    refine ⟨fun e => ?_, fun e => ?_⟩
    · have h1 := h.tb
      unfold TB at h1
      rw [← e, he] at h1
      simp at h1
    · obtain ⟨cs, h1⟩ := hlb j e
      rw [h1] at he
      simp at he
  have keepE : ∀ j (x : Mv) tk q, EN w j x tk q → EN W6 j x tk q := fun j x tk q he => (hK j (Array.getElem?_eq_some_iff.1 he).1 (hen j x tk q he).1 (hen j x tk q he).2).trans he
  have hr6w : rg < W6.heap.size := by
    rcases hr6.2 with ⟨e, _⟩ | ⟨g', cap, cur, e, _, hgg, _⟩
    · rw [hlg] at e; simp at e
    · rw [hlg] at e
      simp only [Value.slice.injEq, Option.some.injEq, Addr.mk.injEq] at e
      rw [e.1.1]
      exact (Array.getElem?_eq_some_iff.1 hgg).1
  have hBe : ¬ B ge := fun e => hgA (h.ab _ e)
  have hnin : ge ∉ gs := fun e => hgA (h.ag _ e)
  have hmg : ∀ x, x ∈ insG l gs m ge ↔ x = ge ∨ x ∈ gs := fun x => by
    unfold insG
    rw [List.mem_append, List.mem_cons]
    constructor
    · rintro (h1 | h1 | h1)
      · exact Or.inr (List.mem_of_mem_take h1)
      · exact Or.inl h1
      · exact Or.inr (List.mem_of_mem_drop h1)
    · rintro (h1 | h1)
      · exact Or.inr (Or.inl h1)
      · rw [← List.take_append_drop (rkL mvl l m) gs, List.mem_append] at h1
        rcases h1 with h1 | h1
        · exact Or.inl h1
        · exact Or.inr (Or.inr h1)
  refine ⟨hT6, by rw [hgl]; exact hr6, by rw [hgl, ins_len, h.len], ?_, fun i g m' h1 h2 => ?_, by rw [ins_len]; have := h.le; omega, h.sb.kept (fun j hj => hK j (h.bs j hj) (fun e => h.bt (e ▸ hj)) (fun e => h.bl j e hj)), by rw [ins_take hk]; exact h.perm, h.log.ins hf hb hi, fun x hx => ?_, fun j hj => Nat.lt_of_lt_of_le (h.bs j hj) hz, h.bt, fun x hx => ?_, fun j hj => ?_, ?_, by rw [ins_len]; exact hs, fun j hj => Or.inl (h.ab j hj), Or.inl h.at_, fun x hx => ?_, fun j hj => ?_, fun j hj => ?_⟩
  · have hp : (insG l gs m ge).Perm (ge :: gs) := by
      unfold insG
      have := List.perm_middle (a := ge) (l₁ := gs.take (rkL mvl l m)) (l₂ := gs.drop (rkL mvl l m))
      rwa [List.take_append_drop] at this
    exact hp.nodup_iff.2 (List.nodup_cons.2 ⟨hnin, h.nd⟩)
  · unfold insG at h1
    unfold insL at h2
    rw [ins_get gs ge _ (by rw [h.len]; exact hrl)] at h1
    rw [ins_get l m _ hrl] at h2
    by_cases c1 : i < rkL mvl l m
    · rw [if_pos c1] at h1 h2
      obtain ⟨tk', o, h3, h4⟩ := h.en i g m' h1 h2
      refine ⟨tk', o, keepE _ _ _ _ h3, fun hik => ?_⟩
      rw [ins_take (by omega)]
      exact h4 hik
    · rw [if_neg c1] at h1 h2
      by_cases c2 : i = rkL mvl l m
      · rw [if_pos c2] at h1 h2
        cases h1
        cases h2
        exact ⟨tk, some q, keepE _ _ _ _ hE, fun hik => absurd hik (by omega)⟩
      · rw [if_neg c2] at h1 h2
        obtain ⟨tk', o, h3, h4⟩ := h.en (i - 1) g m' h1 h2
        exact ⟨tk', o, keepE _ _ _ _ h3, fun hik => absurd hik (by omega)⟩
  · rcases List.mem_cons.1 ((ins_perm mvl l m).mem_iff.1 hx) with rfl | hx
    · exact hd
    · exact h.dw x hx
  · rcases (hmg x).1 hx with rfl | hx
    · exact hBe
    · exact h.bg x hx
  · rw [hlg] at hj
    simp only [Value.ownBlock, Option.some.injEq] at hj
    subst hj
    rcases hrg with e | e
    · exact h.bl _ e
    · exact fun e' => absurd (h.bs _ e') (by omega)
  · rcases h.fnd with h1 | ⟨fm, G, h1, h2, h3, h4, h5⟩
    · exact Or.inl h1
    · refine Or.inr ⟨fm, G, h1, h2, Or.inl h3, h4.same (hK fm h4.lt (fun e => ?_) (fun e => ?_)), h5⟩
      · obtain ⟨D, ho, _⟩ := h4
        exact map_cells ho h.tb e.symm
      · obtain ⟨cs, hcs⟩ := hlb fm e
        obtain ⟨D, ho, _⟩ := h4
        exact map_cells ho hcs rfl
  · rcases (hmg x).1 hx with rfl | hx
    · exact Or.inr (Or.inl rfl)
    · exact Or.inl (h.ag x hx)
  · rw [hlg] at hj
    simp only [Value.ownBlock, Option.some.injEq] at hj
    exact Or.inr (Or.inr hj.symm)
  · rcases hj with hj | rfl | rfl
    · exact Nat.lt_of_lt_of_le (h.as_ j hj) hz
    · omega
    · exact hr6w
end

section
set_option linter.unusedVariables false
open Go.RowKit

/-- The map of what is found is made: it lies in a new block. -/
theorem TR.made {w w' : World} {t : Nat} {l : List Mv} {k : Nat} {gs : List Nat} {S : List Sp} {lg pl kd : Value} {fl : List (Mv × Nat)} {B A : Nat → Prop} (h : TR w t l k gs S lg (.map none) pl kd fl B A) {fm : Nat} (hz : w.heap.size ≤ w'.heap.size) (hfm : w.heap.size ≤ fm) (hT : TB w' t lg (.map (some fm)) (.int .i64 (k : Int)) pl kd) (hP : PM w' fm 0 (fun _ => none)) (hK : ∀ j, j < w.heap.size → j ≠ t → w'.heap[j]? = w.heap[j]?) :
    TR w' t l k gs S lg (.map (some fm)) pl kd fl B (fun j => A j ∨ j = fm) := by
  have hfl : fl = [] := by
    rcases h.fnd with ⟨_, e⟩ | ⟨fm', G, e, _⟩
    · exact e
    · cases e
  subst hfl
  have hes : ∀ j (x : Mv) tk q, EN w j x tk q → j ≠ t := fun j x tk q he e => by
    have h1 := h.tb
    unfold TB at h1
    unfold EN at he
    rw [← e, he] at h1
    simp at h1
  have hlb : ∀ j, lg.ownBlock = some j → j ≠ t := fun j hj e2 => by
    rcases h.row.2 with ⟨e, _⟩ | ⟨g', cap, cur, e, hb, hgg, hn, hc, hs, ht⟩
    · rw [e] at hj; simp [Value.ownBlock] at hj
    · rw [e] at hj
      simp only [Value.ownBlock, Option.some.injEq] at hj
      subst hj
      have h1 := h.tb
      unfold TB at h1
      rw [← e2, hgg] at h1
      simp at h1
  refine ⟨hT, erow_kept h.row (fun j hj => hK j (h.as_ j (h.al j hj)) (hlb j hj)), h.len, h.nd, fun i g m h1 h2 => ?_, h.le, h.sb.kept (fun j hj => hK j (h.bs j hj) (fun e => h.bt (e ▸ hj))), h.perm, h.log, h.dw, fun j hj => Nat.lt_of_lt_of_le (h.bs j hj) hz, h.bt, h.bg, h.bl, Or.inr ⟨fm, _, rfl, fun e => absurd (h.bs _ e) (by omega), Or.inr rfl, hP, by simp, fun d hd => by cases hd⟩, h.small, fun j hj => Or.inl (h.ab j hj), Or.inl h.at_, fun g hg => Or.inl (h.ag g hg), fun j hj => Or.inl (h.al j hj), fun j hj => ?_⟩
  · obtain ⟨tk, o, h3, h4⟩ := h.en i g m h1 h2
    exact ⟨tk, o, (hK g (h.as_ g (h.ag g (List.mem_of_getElem? h1))) (hes g m tk _ h3)).trans h3, h4⟩
  · rcases hj with hj | rfl
    · exact Nat.lt_of_lt_of_le (h.as_ j hj) hz
    · exact hP.lt

/-- One more is found. -/
theorem TR.found {w w' : World} {t : Nat} {l : List Mv} {k : Nat} {gs : List Nat} {S : List Sp} {lg pl kd : Value} {fl : List (Mv × Nat)} {B A : Nat → Prop} {fm : Nat} (h : TR w t l k gs S lg (.map (some fm)) pl kd fl B A) {m : Mv} {ge : Nat} (hf : ∀ x ∈ fl, x.1.id ≠ m.id) {G : Dt → Option Nat} (hG : PM w fm fl.length G) (hG5 : ∀ x ∈ fl, G x.1.id = some x.2) (hG6 : ∀ d, (G d).isSome = true → ∃ x ∈ fl, x.1.id = d) (hBf : ¬ B fm) (hAf : A fm)
    (hP : PM w' fm (fl.length + 1) (fun e => if e = m.id then some ge else G e)) (hg : w.grownBy w' (some fm)) : TR w' t l k gs S lg (.map (some fm)) pl kd (fl ++ [(m, ge)]) B A := by
  obtain ⟨D, ho, _⟩ := hG
  have hcell : ∀ (j : Nat) (cs : Array Value) (ty : TypeId) (fz : Nat × Nat), w.heap[j]? = some (Obj.cells cs ty fz) → w'.heap[j]? = w.heap[j]? := fun j cs ty fz hj => hg.block j (Array.getElem?_eq_some_iff.1 hj).1 (by
    intro e
    exact map_cells ho hj (Option.some.inj e))
  have hlb : ∀ j, lg.ownBlock = some j → w'.heap[j]? = w.heap[j]? := fun j hj => by
    rcases h.row.2 with ⟨e, _⟩ | ⟨g', cap, cur, e, hb, hgg, hn, hc, hs, ht⟩
    · rw [e] at hj; simp [Value.ownBlock] at hj
    · rw [e] at hj
      simp only [Value.ownBlock, Option.some.injEq] at hj
      subst hj
      exact hcell _ _ _ _ hgg
  refine ⟨(hcell t _ _ _ h.tb).trans h.tb, erow_kept h.row hlb, h.len, h.nd, fun i g m' h1 h2 => ?_, h.le, h.sb.kept (fun j hj => hg.block j (h.bs j hj) (by intro e; exact hBf (Option.some.inj e ▸ hj))), h.perm, h.log, h.dw, fun j hj => Nat.lt_of_lt_of_le (h.bs j hj) hg.size, h.bt, h.bg, h.bl, Or.inr ⟨fm, _, rfl, hBf, hAf, by rw [List.length_append]; exact hP, fun x hx => ?_, fun d hd => ?_⟩, h.small, h.ab, h.at_, h.ag, h.al, fun j hj => Nat.lt_of_lt_of_le (h.as_ j hj) hg.size⟩
  · obtain ⟨tk, o, h3, h4⟩ := h.en i g m' h1 h2
    exact ⟨tk, o, (hcell g _ _ _ h3).trans h3, h4⟩
  · rcases List.mem_append.1 hx with hx | hx
    · simp only [if_neg (hf x hx)]
      exact hG5 x hx
    · rw [List.mem_singleton] at hx
      subst hx
      simp
  · by_cases e : d = m.id
    · exact ⟨(m, ge), by simp, e.symm⟩
    · simp only [if_neg e] at hd
      obtain ⟨x, hx, h7⟩ := hG6 d hd
      exact ⟨x, List.mem_append_left _ hx, h7⟩
end
end Go.Proofs.YtnmdcdphpcpojaaGreatDoor
