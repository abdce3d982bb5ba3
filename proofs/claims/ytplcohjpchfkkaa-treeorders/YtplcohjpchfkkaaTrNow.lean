/- now: all moves are done. -/
import Derived.Test.YtplcohjpchfkkaaTrTree
set_option linter.unusedVariables false
set_option linter.unusedSimpArgs false
namespace Go.Proofs.Ytplcohjpchfkkaa
open Go.RowKit

/-- All that isn't one's own is as it was; what is one's own now was, or is new. -/
structure KA (w w' : World) (A A' : Nat → Prop) : Prop where
  size : w.heap.size ≤ w'.heap.size
  keep : ∀ j, j < w.heap.size → ¬ A j → w'.heap[j]? = w.heap[j]?
  new : ∀ j, A' j → A j ∨ w.heap.size ≤ j
  sm : Sm w w'

theorem KA.trans {w V X : World} {A A1 A2 : Nat → Prop} (h : KA w V A A1) (k : KA V X A1 A2) : KA w X A A2 :=
  ⟨Nat.le_trans h.size k.size, fun j hj hA => (k.keep j (Nat.lt_of_lt_of_le hj h.size) (fun e => by
    rcases h.new j e with e | e
    · exact hA e
    · omega)).trans (h.keep j hj hA), fun j hj => by
    rcases k.new j hj with e | e
    · exact h.new j e
    · exact Or.inr (Nat.le_trans h.size e), h.sm.trans k.sm⟩

/-- How many are to be done. -/
def nowM (t n : Nat) (w : World) : Nat := match w.cell? ⟨t, 2, none⟩ with
  | some (.int .i64 k) => n - k.toNat
  | _ => 0

set_option maxRecDepth 100000 in
set_option maxHeartbeats 4000000 in
theorem now_any (t : Nat) (l : List Mv) (k0 : Nat) (gs : List Nat) (S0 : List Sp) (lg fd pl0' kd0 : Value) (fl : List (Mv × Nat)) (B0 A0 : Nat → Prop) (w : World) (h0 : TR w t l k0 gs S0 lg fd pl0' kd0 fl B0 A0) :
    Calls Try.prog 39 #[.pointer (some ⟨t, 0, none⟩)] w fun e w' => e = .returned (.pointer (some ⟨t, 3, none⟩)) ∧ ∃ S pl kd B A, TR w' t l l.length gs S lg fd pl kd fl B A ∧ KA w w' A0 A := by
  have hmxo : Try.prog.follows .mixedOrders = true := by kernel_rfl
  obtain ⟨a, c, hlg, _⟩ := own_pp h0.row
  have hln := h0.len
  have hsm := h0.small
  rw [hln] at hlg
  obtain ⟨n, hn⟩ : ∃ n, n = l.length := ⟨_, rfl⟩
  rw [← hn] at hlg hsm ⊢
  have HN := hid hn
  have HL := hid hln
  have H0 := hid h0
  have HLG := hid hlg
  clear hn hln h0 hlg
  go_enter Try.func39, Try.ntmps39
  go_wp2_with fail
  go_loopw [] (fun wr => ∃ (k : Nat) (S : List Sp) (pl kd : Value) (B A : Nat → Prop), Hid (TR wr t l k gs S lg fd pl kd fl B A) ∧ Hid (KA w wr A0 A)) (fun wr => nowM t n wr)
  case atStart => exact ⟨k0, S0, pl0', kd0, B0, A0, H0, hid ⟨Nat.le_refl _, fun _ _ _ => rfl, fun j hj => Or.inl hj, Sm.refl _⟩⟩
  case round =>
    obtain ⟨k, S, pl, kd, B, A, HT, HK⟩ := hrel
    have hkn : k ≤ n := by rw [HN.out]; exact HT.out.le
    have htb := HT.out.tb
    rw [HLG.out] at htb
    have hS3 : wr.drew.cell? ⟨t, 2, none⟩ = some (.int .i64 (k : Int)) ∧ wr.drew.cell? ⟨t, 0, none⟩ = some (.slice a n c) := by
      unfold TB at htb
      exact ⟨by show wr.cell? _ = _; simp [World.cell?, htb], by show wr.cell? _ = _; simp [World.cell?, htb]⟩
    by_cases hlt : k < n
    · obtain ⟨g, hg⟩ : ∃ g, gs[k]? = some g := ⟨_, List.getElem?_eq_getElem (by rw [HL.out, ← HN.out]; exact hlt)⟩
      obtain ⟨m, hm⟩ : ∃ m, l[k]? = some m := ⟨_, List.getElem?_eq_getElem (by rw [← HN.out]; exact hlt)⟩
      obtain ⟨rb, ro, ha, hc4⟩ : ∃ rb ro, a = some ⟨rb, ro, none⟩ ∧ wr.cell? ⟨rb, ro + k, none⟩ = some (.pointer (some ⟨g, 0, none⟩)) := by
        obtain ⟨a', c', e', hpp⟩ := own_pp HT.out.row
        rw [HLG.out] at e'
        cases e'
        obtain ⟨rb, ro, e1, _, e2⟩ := hpp.at_ (by rw [HL.out, ← HN.out]; omega)
        have hkg : k < gs.length := by rw [HL.out, ← HN.out]; exact hlt
        have := e2 k hkg
        rw [List.getElem?_eq_getElem hkg] at hg
        rw [Option.some.inj hg] at this
        exact ⟨rb, ro, e1, this⟩
      subst ha
      have hS4 : wr.drew.drew.cell? ⟨t, 2, none⟩ = some (.int .i64 (k : Int)) ∧ wr.drew.drew.cell? ⟨t, 0, none⟩ = some (.slice (some ⟨rb, ro, none⟩) n c) ∧ wr.drew.drew.cell? ⟨rb, ro + k, none⟩ = some (.pointer (some ⟨g, 0, none⟩)) := ⟨hS3.1, hS3.2, hc4⟩
      have HDo : Hid (Calls Try.prog 61 #[.pointer (some ⟨t, 3, none⟩), .pointer (some ⟨g, 0, none⟩)] wr.drew.drew fun e w' => e = .returned (.tuple #[]) ∧ (w'.cell? ⟨t, 2, none⟩ = some (.int .i64 (k : Int)) ∧ w'.cell? ⟨t, 0, none⟩ = some (.slice (some ⟨rb, ro, none⟩) n c) ∧ w'.cell? ⟨rb, ro + k, none⟩ = some (.pointer (some ⟨g, 0, none⟩))) ∧ w'.frozen? ⟨t, 2, none⟩ = false ∧ Hid (∃ pl' kd' B' A', TR (w'.setCell ⟨t, 2, none⟩ (.int .i64 ((k + 1 : Nat) : Int))) t l (k + 1) gs (step S m) lg fd pl' kd' fl B' A' ∧ KA w (w'.setCell ⟨t, 2, none⟩ (.int .i64 ((k + 1 : Nat) : Int))) A0 A')) := hid (by
        have h1 : TR wr.drew.drew t l k gs S lg fd pl kd fl B A := HT.out.same (Nat.le_refl _) (fun j _ => rfl)
        have hK1 : KA w wr.drew.drew A0 A := ⟨HK.out.size, HK.out.keep, HK.out.new, HK.out.sm⟩
        obtain ⟨r, hr⟩ := h1.tk
        obtain ⟨s1, s2, s3⟩ := h1.spots
        obtain ⟨tk, o, hE, _⟩ := h1.en k g m hg hm
        have hml := List.mem_of_getElem? hm
        have hgl := List.mem_of_getElem? hg
        refine (do_any t g lg fd (.int .i64 (k : Int)) pl kd S r B m tk (o.getD pl0) wr.drew.drew hr h1.tb h1.sb hE h1.bt (h1.bg g hgl) h1.bs s1 s2 (h1.log.may m hml).2 (h1.dw m hml).2.1 (h1.dw m hml).2.2 (by omega)).mono ?_
        rintro e w' ⟨rfl, pl', kd', hT', hS', hE', hKB⟩
        have hN := h1.next hg hm hT' hS' hE' hKB
        have hT'' := hT'
        rw [HLG.out] at hT''
        unfold TB at hT''
        have hz := hKB.size
        have hrbA : A rb := h1.al rb (by rw [HLG.out]; rfl)
        have hrbw := h1.as_ rb hrbA
        have hrb : w'.heap[rb]? = wr.heap[rb]? := by
          have hB : ¬ B rb := h1.bl rb (by rw [HLG.out]; rfl)
          obtain ⟨cs, hcs⟩ : ∃ cs, wr.drew.drew.heap[rb]? = some (.cells cs 71 (0, 0)) := by
            have h7 := h1.row
            rw [HLG.out] at h7
            rcases h7.2 with ⟨e, _⟩ | ⟨g', cap, cur, e, hb, hgg, _⟩
            · simp at e
            · simp only [Value.slice.injEq, Option.some.injEq, Addr.mk.injEq] at e
              exact ⟨cur, by rw [e.1.1]; exact hgg⟩
          refine hKB.keep rb hrbw (fun e => ?_) (fun e => ?_)
          · rcases e with e | e
            · exact hB e
            · unfold EN at hE
              rw [← e, hcs] at hE
              simp at hE
          · have h8 := h1.tb
            unfold TB at h8
            rw [← e, hcs] at h8
            simp at h8
        refine ⟨rfl, ⟨by simp [World.cell?, hT''], by simp [World.cell?, hT''], ?_⟩, by simp [World.frozen?, hT''], hid ⟨pl', kd', _, _, hN, hK1.trans ⟨?_, fun j hj hA => ?_, fun j hj => ?_, hKB.sm.trans (Sm.g (grownBy_setCell w' t 2 _))⟩⟩⟩
        · simp only [World.cell?, hrb]
          exact hc4
        · exact Nat.le_trans hz (grownBy_setCell w' t 2 _).size
        · have hjt : j ≠ t := fun e => hA (e ▸ h1.at_)
          exact ((grownBy_setCell w' t 2 _).block j (by omega) (by simpa using hjt)).trans (hKB.keep j hj (fun e => by
            rcases e with e | e
            · exact hA (h1.ab j e)
            · exact hA (e ▸ h1.ag g hgl)) hjt)
        · rcases hj with hj | hj
          · exact Or.inl hj
          · exact Or.inr hj.1)
      have hb : decide ((k : Int) < (n : Int)) = true := by simpa using hlt
      have hm0 : Hid (nowM t n wr = n - k) := hid (by
        have : wr.cell? ⟨t, 2, none⟩ = some (.int .i64 (k : Int)) := hS3.1
        unfold nowM
        rw [this]
        simp)
      have hwr : IntKind.i64.wrap ((k : Int) + 1) = ((k + 1 : Nat) : Int) := by rw [IntKind.wrap_i64]; omega
      clear htb
      go_wp2_with fail
      refine wp_region_held_drew (S := fun w' => w'.cell? ⟨t, 2, none⟩ = some (.int .i64 (k : Int)) ∧ w'.cell? ⟨t, 0, none⟩ = some (.slice (some ⟨rb, ro, none⟩) n c)) hmxo hS3 ?_
      intro _
      refine wpAnyH_take (i := 0) (v := .pointer (some ⟨t, 0, none⟩)) rfl (by kernel_rfl) (by kernel_rfl) (by kernel_rfl) (fun _ _ _ h => h) (Or.inl ⟨by kernel_rfl, fun w hSw => ?_⟩) hS3 ?_
      · obtain ⟨e1, e2⟩ := hSw; go_simp
      simp only [Act.put, List.getElem_toArray, List.getElem_cons_succ, List.getElem_cons_zero, List.setIfInBounds_toArray, List.set_cons_zero, List.set_cons_succ]
      refine wpAnyH_take (i := 1) (v := .pointer (some ⟨t, 0, none⟩)) rfl (by kernel_rfl) (by kernel_rfl) (by kernel_rfl) (fun _ _ _ h => h) (Or.inl ⟨by kernel_rfl, fun w hSw => ?_⟩) hS3 ?_
      · obtain ⟨e1, e2⟩ := hSw; go_simp
      simp only [Act.put, List.getElem_toArray, List.getElem_cons_succ, List.getElem_cons_zero, List.setIfInBounds_toArray, List.set_cons_zero, List.set_cons_succ]
      refine wpAnyH_take (i := 2) (v := .pointer (some ⟨t, 2, none⟩)) rfl (by kernel_rfl) (by kernel_rfl) (by kernel_rfl) (fun _ _ _ h => h) (Or.inl ⟨by kernel_rfl, fun w hSw => ?_⟩) hS3 ?_
      · obtain ⟨e1, e2⟩ := hSw; go_simp
      simp only [Act.put, List.getElem_toArray, List.getElem_cons_succ, List.getElem_cons_zero, List.setIfInBounds_toArray, List.set_cons_zero, List.set_cons_succ]
      refine wpAnyH_take (i := 3) (v := .int .i64 (k : Int)) rfl (by kernel_rfl) (by kernel_rfl) (by kernel_rfl) (fun _ _ _ h => h) (Or.inl ⟨by kernel_rfl, fun w hSw => ?_⟩) hS3 ?_
      · obtain ⟨e1, e2⟩ := hSw; go_simp
      simp only [Act.put, List.getElem_toArray, List.getElem_cons_succ, List.getElem_cons_zero, List.setIfInBounds_toArray, List.set_cons_zero, List.set_cons_succ]
      refine wpAnyH_take (i := 4) (v := .pointer (some ⟨t, 0, none⟩)) rfl (by kernel_rfl) (by kernel_rfl) (by kernel_rfl) (fun _ _ _ h => h) (Or.inl ⟨by kernel_rfl, fun w hSw => ?_⟩) hS3 ?_
      · obtain ⟨e1, e2⟩ := hSw; go_simp
      simp only [Act.put, List.getElem_toArray, List.getElem_cons_succ, List.getElem_cons_zero, List.setIfInBounds_toArray, List.set_cons_zero, List.set_cons_succ]
      refine wpAnyH_take (i := 5) (v := .pointer (some ⟨t, 0, none⟩)) rfl (by kernel_rfl) (by kernel_rfl) (by kernel_rfl) (fun _ _ _ h => h) (Or.inl ⟨by kernel_rfl, fun w hSw => ?_⟩) hS3 ?_
      · obtain ⟨e1, e2⟩ := hSw; go_simp
      simp only [Act.put, List.getElem_toArray, List.getElem_cons_succ, List.getElem_cons_zero, List.setIfInBounds_toArray, List.set_cons_zero, List.set_cons_succ]
      refine wpAnyH_take (i := 6) (v := .pointer (some ⟨t, 0, none⟩)) rfl (by kernel_rfl) (by kernel_rfl) (by kernel_rfl) (fun _ _ _ h => h) (Or.inl ⟨by kernel_rfl, fun w hSw => ?_⟩) hS3 ?_
      · obtain ⟨e1, e2⟩ := hSw; go_simp
      simp only [Act.put, List.getElem_toArray, List.getElem_cons_succ, List.getElem_cons_zero, List.setIfInBounds_toArray, List.set_cons_zero, List.set_cons_succ]
      refine wpAnyH_take (i := 7) (v := .slice (some ⟨rb, ro, none⟩) n c) rfl (by kernel_rfl) (by kernel_rfl) (by kernel_rfl) (fun _ _ _ h => h) (Or.inl ⟨by kernel_rfl, fun w hSw => ?_⟩) hS3 ?_
      · obtain ⟨e1, e2⟩ := hSw; go_simp
      simp only [Act.put, List.getElem_toArray, List.getElem_cons_succ, List.getElem_cons_zero, List.setIfInBounds_toArray, List.set_cons_zero, List.set_cons_succ]
      refine wpAnyH_take (i := 8) (v := .int .i64 (n : Int)) rfl (by kernel_rfl) (by kernel_rfl) (by kernel_rfl) (fun _ _ _ h => h) (Or.inl ⟨by kernel_rfl, fun w hSw => ?_⟩) hS3 ?_
      · obtain ⟨e1, e2⟩ := hSw; go_simp
      simp only [Act.put, List.getElem_toArray, List.getElem_cons_succ, List.getElem_cons_zero, List.setIfInBounds_toArray, List.set_cons_zero, List.set_cons_succ]
      refine wpAnyH_take (i := 9) (v := .bool true) rfl (by kernel_rfl) (by kernel_rfl) (by kernel_rfl) (fun _ _ _ h => h) (Or.inl ⟨by kernel_rfl, fun w hSw => ?_⟩) hS3 ?_
      · obtain ⟨e1, e2⟩ := hSw; go_simp
      simp only [Act.put, List.getElem_toArray, List.getElem_cons_succ, List.getElem_cons_zero, List.setIfInBounds_toArray, List.set_cons_zero, List.set_cons_succ]
      refine wpAnyH_done (by kernel_rfl) ?_ _
      go_wp2_with fail
      refine wp_region_held_drew (S := fun w' => w'.cell? ⟨t, 2, none⟩ = some (.int .i64 (k : Int)) ∧ w'.cell? ⟨t, 0, none⟩ = some (.slice (some ⟨rb, ro, none⟩) n c) ∧ w'.cell? ⟨rb, ro + k, none⟩ = some (.pointer (some ⟨g, 0, none⟩))) hmxo hS4 ?_
      intro _
      refine wpAnyH_take (i := 0) (v := .pointer (some ⟨t, 0, none⟩)) rfl (by kernel_rfl) (by kernel_rfl) (by kernel_rfl) (fun _ _ _ h => h) (Or.inl ⟨by kernel_rfl, fun w hSw => ?_⟩) hS4 ?_
      · obtain ⟨e1, e2, e3⟩ := hSw; go_simp
      simp only [Act.put, List.getElem_toArray, List.getElem_cons_succ, List.getElem_cons_zero, List.setIfInBounds_toArray, List.set_cons_zero, List.set_cons_succ]
      refine wpAnyH_take (i := 1) (v := .pointer (some ⟨t, 0, none⟩)) rfl (by kernel_rfl) (by kernel_rfl) (by kernel_rfl) (fun _ _ _ h => h) (Or.inl ⟨by kernel_rfl, fun w hSw => ?_⟩) hS4 ?_
      · obtain ⟨e1, e2, e3⟩ := hSw; go_simp
      simp only [Act.put, List.getElem_toArray, List.getElem_cons_succ, List.getElem_cons_zero, List.setIfInBounds_toArray, List.set_cons_zero, List.set_cons_succ]
      refine wpAnyH_take (i := 2) (v := .pointer (some ⟨t, 3, none⟩)) rfl (by kernel_rfl) (by kernel_rfl) (by kernel_rfl) (fun _ _ _ h => h) (Or.inl ⟨by kernel_rfl, fun w hSw => ?_⟩) hS4 ?_
      · obtain ⟨e1, e2, e3⟩ := hSw; go_simp
      simp only [Act.put, List.getElem_toArray, List.getElem_cons_succ, List.getElem_cons_zero, List.setIfInBounds_toArray, List.set_cons_zero, List.set_cons_succ]
      refine wpAnyH_take (i := 3) (v := .pointer (some ⟨t, 0, none⟩)) rfl (by kernel_rfl) (by kernel_rfl) (by kernel_rfl) (fun _ _ _ h => h) (Or.inl ⟨by kernel_rfl, fun w hSw => ?_⟩) hS4 ?_
      · obtain ⟨e1, e2, e3⟩ := hSw; go_simp
      simp only [Act.put, List.getElem_toArray, List.getElem_cons_succ, List.getElem_cons_zero, List.setIfInBounds_toArray, List.set_cons_zero, List.set_cons_succ]
      refine wpAnyH_take (i := 4) (v := .pointer (some ⟨t, 0, none⟩)) rfl (by kernel_rfl) (by kernel_rfl) (by kernel_rfl) (fun _ _ _ h => h) (Or.inl ⟨by kernel_rfl, fun w hSw => ?_⟩) hS4 ?_
      · obtain ⟨e1, e2, e3⟩ := hSw; go_simp
      simp only [Act.put, List.getElem_toArray, List.getElem_cons_succ, List.getElem_cons_zero, List.setIfInBounds_toArray, List.set_cons_zero, List.set_cons_succ]
      refine wpAnyH_take (i := 5) (v := .pointer (some ⟨t, 0, none⟩)) rfl (by kernel_rfl) (by kernel_rfl) (by kernel_rfl) (fun _ _ _ h => h) (Or.inl ⟨by kernel_rfl, fun w hSw => ?_⟩) hS4 ?_
      · obtain ⟨e1, e2, e3⟩ := hSw; go_simp
      simp only [Act.put, List.getElem_toArray, List.getElem_cons_succ, List.getElem_cons_zero, List.setIfInBounds_toArray, List.set_cons_zero, List.set_cons_succ]
      refine wpAnyH_take (i := 6) (v := .slice (some ⟨rb, ro, none⟩) n c) rfl (by kernel_rfl) (by kernel_rfl) (by kernel_rfl) (fun _ _ _ h => h) (Or.inl ⟨by kernel_rfl, fun w hSw => ?_⟩) hS4 ?_
      · obtain ⟨e1, e2, e3⟩ := hSw; go_simp
      simp only [Act.put, List.getElem_toArray, List.getElem_cons_succ, List.getElem_cons_zero, List.setIfInBounds_toArray, List.set_cons_zero, List.set_cons_succ]
      refine wpAnyH_take (i := 7) (v := .pointer (some ⟨t, 0, none⟩)) rfl (by kernel_rfl) (by kernel_rfl) (by kernel_rfl) (fun _ _ _ h => h) (Or.inl ⟨by kernel_rfl, fun w hSw => ?_⟩) hS4 ?_
      · obtain ⟨e1, e2, e3⟩ := hSw; go_simp
      simp only [Act.put, List.getElem_toArray, List.getElem_cons_succ, List.getElem_cons_zero, List.setIfInBounds_toArray, List.set_cons_zero, List.set_cons_succ]
      refine wpAnyH_take (i := 8) (v := .pointer (some ⟨t, 0, none⟩)) rfl (by kernel_rfl) (by kernel_rfl) (by kernel_rfl) (fun _ _ _ h => h) (Or.inl ⟨by kernel_rfl, fun w hSw => ?_⟩) hS4 ?_
      · obtain ⟨e1, e2, e3⟩ := hSw; go_simp
      simp only [Act.put, List.getElem_toArray, List.getElem_cons_succ, List.getElem_cons_zero, List.setIfInBounds_toArray, List.set_cons_zero, List.set_cons_succ]
      refine wpAnyH_take (i := 9) (v := .pointer (some ⟨t, 2, none⟩)) rfl (by kernel_rfl) (by kernel_rfl) (by kernel_rfl) (fun _ _ _ h => h) (Or.inl ⟨by kernel_rfl, fun w hSw => ?_⟩) hS4 ?_
      · obtain ⟨e1, e2, e3⟩ := hSw; go_simp
      simp only [Act.put, List.getElem_toArray, List.getElem_cons_succ, List.getElem_cons_zero, List.setIfInBounds_toArray, List.set_cons_zero, List.set_cons_succ]
      refine wpAnyH_take (i := 10) (v := .int .i64 (k : Int)) rfl (by kernel_rfl) (by kernel_rfl) (by kernel_rfl) (fun _ _ _ h => h) (Or.inl ⟨by kernel_rfl, fun w hSw => ?_⟩) hS4 ?_
      · obtain ⟨e1, e2, e3⟩ := hSw; go_simp
      simp only [Act.put, List.getElem_toArray, List.getElem_cons_succ, List.getElem_cons_zero, List.setIfInBounds_toArray, List.set_cons_zero, List.set_cons_succ]
      refine wpAnyH_take (i := 11) (v := .pointer (some ⟨rb, ro + k, none⟩)) rfl (by kernel_rfl) (by kernel_rfl) (by kernel_rfl) (fun _ _ _ h => h) (Or.inl ⟨by kernel_rfl, fun w hSw => ?_⟩) hS4 ?_
      · obtain ⟨e1, e2, e3⟩ := hSw; go_simp
      simp only [Act.put, List.getElem_toArray, List.getElem_cons_succ, List.getElem_cons_zero, List.setIfInBounds_toArray, List.set_cons_zero, List.set_cons_succ]
      refine wpAnyH_take (i := 12) (v := .pointer (some ⟨g, 0, none⟩)) rfl (by kernel_rfl) (by kernel_rfl) (by kernel_rfl) (fun _ _ _ h => h) (Or.inl ⟨by kernel_rfl, fun w hSw => ?_⟩) hS4 ?_
      · obtain ⟨e1, e2, e3⟩ := hSw; go_simp
      simp only [Act.put, List.getElem_toArray, List.getElem_cons_succ, List.getElem_cons_zero, List.setIfInBounds_toArray, List.set_cons_zero, List.set_cons_succ]
      refine wpAnyH_ready (rs := [13]) (by kernel_rfl) (by simp) ?_
      refine AllReadyH.cons rfl (fun K hK => ?_) AllReadyH.nil
      go_simp
      refine HDo.out.mono ?_
      rintro e W5 ⟨rfl, S5, z5, HF⟩
      refine hK.out _ _ S5 (fun _ => ?_)
      clear hK K
      refine wpAnyH_done (by kernel_rfl) ?_ _
      obtain ⟨s50, s51, s52⟩ := S5
      clear HDo hS3 hS4 HT HK
      go_wp2
      go_roundw
      case rel =>
        obtain ⟨pl', kd', B', A', h7, h8⟩ := HF.out
        exact ⟨k + 1, _, pl', kd', B', A', hid h7, hid h8⟩
      case measure =>
        obtain ⟨pl', kd', B', A', h7, h8⟩ := HF.out
        have h9 := h7.tb
        unfold TB at h9
        have h10 : (W5.setCell ⟨t, 2, none⟩ (.int .i64 ((k + 1 : Nat) : Int))).cell? ⟨t, 2, none⟩ = some (.int .i64 ((k + 1 : Nat) : Int)) := by simp only [World.cell?]; rw [h9]; rfl
        show nowM t n (W5.setCell ⟨t, 2, none⟩ (.int .i64 ((k + 1 : Nat) : Int))) < nowM t n wr
        rw [hm0.out]
        unfold nowM
        rw [h10]
        show n - ((k + 1 : Nat) : Int).toNat < n - k
        omega
    · have hkn' : k = n := by omega
      subst hkn'
      have hb : decide ((k : Int) < (k : Int)) = false := by simp
      clear htb
      go_wp2_with fail
      refine wp_region_held_drew (S := fun w' => w'.cell? ⟨t, 2, none⟩ = some (.int .i64 (k : Int)) ∧ w'.cell? ⟨t, 0, none⟩ = some (.slice a k c)) hmxo hS3 ?_
      intro _
      refine wpAnyH_take (i := 0) (v := .pointer (some ⟨t, 0, none⟩)) rfl (by kernel_rfl) (by kernel_rfl) (by kernel_rfl) (fun _ _ _ h => h) (Or.inl ⟨by kernel_rfl, fun w hSw => ?_⟩) hS3 ?_
      · obtain ⟨e1, e2⟩ := hSw; go_simp
      simp only [Act.put, List.getElem_toArray, List.getElem_cons_succ, List.getElem_cons_zero, List.setIfInBounds_toArray, List.set_cons_zero, List.set_cons_succ]
      refine wpAnyH_take (i := 1) (v := .pointer (some ⟨t, 0, none⟩)) rfl (by kernel_rfl) (by kernel_rfl) (by kernel_rfl) (fun _ _ _ h => h) (Or.inl ⟨by kernel_rfl, fun w hSw => ?_⟩) hS3 ?_
      · obtain ⟨e1, e2⟩ := hSw; go_simp
      simp only [Act.put, List.getElem_toArray, List.getElem_cons_succ, List.getElem_cons_zero, List.setIfInBounds_toArray, List.set_cons_zero, List.set_cons_succ]
      refine wpAnyH_take (i := 2) (v := .pointer (some ⟨t, 2, none⟩)) rfl (by kernel_rfl) (by kernel_rfl) (by kernel_rfl) (fun _ _ _ h => h) (Or.inl ⟨by kernel_rfl, fun w hSw => ?_⟩) hS3 ?_
      · obtain ⟨e1, e2⟩ := hSw; go_simp
      simp only [Act.put, List.getElem_toArray, List.getElem_cons_succ, List.getElem_cons_zero, List.setIfInBounds_toArray, List.set_cons_zero, List.set_cons_succ]
      refine wpAnyH_take (i := 3) (v := .int .i64 (k : Int)) rfl (by kernel_rfl) (by kernel_rfl) (by kernel_rfl) (fun _ _ _ h => h) (Or.inl ⟨by kernel_rfl, fun w hSw => ?_⟩) hS3 ?_
      · obtain ⟨e1, e2⟩ := hSw; go_simp
      simp only [Act.put, List.getElem_toArray, List.getElem_cons_succ, List.getElem_cons_zero, List.setIfInBounds_toArray, List.set_cons_zero, List.set_cons_succ]
      refine wpAnyH_take (i := 4) (v := .pointer (some ⟨t, 0, none⟩)) rfl (by kernel_rfl) (by kernel_rfl) (by kernel_rfl) (fun _ _ _ h => h) (Or.inl ⟨by kernel_rfl, fun w hSw => ?_⟩) hS3 ?_
      · obtain ⟨e1, e2⟩ := hSw; go_simp
      simp only [Act.put, List.getElem_toArray, List.getElem_cons_succ, List.getElem_cons_zero, List.setIfInBounds_toArray, List.set_cons_zero, List.set_cons_succ]
      refine wpAnyH_take (i := 5) (v := .pointer (some ⟨t, 0, none⟩)) rfl (by kernel_rfl) (by kernel_rfl) (by kernel_rfl) (fun _ _ _ h => h) (Or.inl ⟨by kernel_rfl, fun w hSw => ?_⟩) hS3 ?_
      · obtain ⟨e1, e2⟩ := hSw; go_simp
      simp only [Act.put, List.getElem_toArray, List.getElem_cons_succ, List.getElem_cons_zero, List.setIfInBounds_toArray, List.set_cons_zero, List.set_cons_succ]
      refine wpAnyH_take (i := 6) (v := .pointer (some ⟨t, 0, none⟩)) rfl (by kernel_rfl) (by kernel_rfl) (by kernel_rfl) (fun _ _ _ h => h) (Or.inl ⟨by kernel_rfl, fun w hSw => ?_⟩) hS3 ?_
      · obtain ⟨e1, e2⟩ := hSw; go_simp
      simp only [Act.put, List.getElem_toArray, List.getElem_cons_succ, List.getElem_cons_zero, List.setIfInBounds_toArray, List.set_cons_zero, List.set_cons_succ]
      refine wpAnyH_take (i := 7) (v := .slice a k c) rfl (by kernel_rfl) (by kernel_rfl) (by kernel_rfl) (fun _ _ _ h => h) (Or.inl ⟨by kernel_rfl, fun w hSw => ?_⟩) hS3 ?_
      · obtain ⟨e1, e2⟩ := hSw; go_simp
      simp only [Act.put, List.getElem_toArray, List.getElem_cons_succ, List.getElem_cons_zero, List.setIfInBounds_toArray, List.set_cons_zero, List.set_cons_succ]
      refine wpAnyH_take (i := 8) (v := .int .i64 (k : Int)) rfl (by kernel_rfl) (by kernel_rfl) (by kernel_rfl) (fun _ _ _ h => h) (Or.inl ⟨by kernel_rfl, fun w hSw => ?_⟩) hS3 ?_
      · obtain ⟨e1, e2⟩ := hSw; go_simp
      simp only [Act.put, List.getElem_toArray, List.getElem_cons_succ, List.getElem_cons_zero, List.setIfInBounds_toArray, List.set_cons_zero, List.set_cons_succ]
      refine wpAnyH_take (i := 9) (v := .bool false) rfl (by kernel_rfl) (by kernel_rfl) (by kernel_rfl) (fun _ _ _ h => h) (Or.inl ⟨by kernel_rfl, fun w hSw => ?_⟩) hS3 ?_
      · obtain ⟨e1, e2⟩ := hSw; go_simp
      simp only [Act.put, List.getElem_toArray, List.getElem_cons_succ, List.getElem_cons_zero, List.setIfInBounds_toArray, List.set_cons_zero, List.set_cons_succ]
      refine wpAnyH_done (by kernel_rfl) ?_ _
      go_wp2
      go_ret
      exact ⟨rfl, S, pl, kd, B, A, HT.out.same (Nat.le_refl _) (fun j _ => rfl), HK.out.size, HK.out.keep, HK.out.new, HK.out.sm⟩
end Go.Proofs.Ytplcohjpchfkkaa
