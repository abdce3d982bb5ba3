/- Bytes that are taken without an error are those that are put. -/
import Derived.Test.YthipadnghdodlaaOTake
import Derived.Test.YthipadnghdodlaaOPutA
namespace Go.Proofs.Ythipadnghdodlaa
open Go.RowKit

theorem zig_dint {n : Int} (h : 0 ≤ n) : zig (dint n) = n := by unfold zig dint; split <;> split <;> omega

theorem dec_back {L : List Int} {e : Int} (hB : Bts L) (h : (dec L e).2.2 = 0) : e = 0 ∧ L = enc (dec L e).1 ++ (dec L e).2.1 ∧ zig (dint (dec L e).1) = (dec L e).1 ∧ Bts (dec L e).2.1 := by
  have he : e = 0 := Classical.byContradiction fun hne => by rw [dec_dead L e hne] at h; exact hne h
  subst he
  obtain ⟨h1, _⟩ := dec_parts L hB h
  refine ⟨rfl, h1, zig_dint (dec_u64 L 0 hB).1, ?_⟩
  rw [h1] at hB
  exact hB.right

theorem tk_back {L : List Int} {e : Int} (hB : Bts L) (h : (tk L e).2.2 = 0) : e = 0 ∧ L = encd (tk L e).1 ++ (tk L e).2.1 ∧ Bts (tk L e).2.1 := by
  have h2 : (dec (dec L e).2.1 (dec L e).2.2).2.2 = 0 := h
  have h1 : (dec L e).2.2 = 0 := Classical.byContradiction fun hne => by rw [dec_dead _ _ hne] at h2; exact hne h2
  obtain ⟨he, p1, z1, b1⟩ := dec_back hB h1
  obtain ⟨_, p2, z2, b2⟩ := dec_back b1 h2
  refine ⟨he, ?_, b2⟩
  unfold tk
  simp only
  rw [if_pos h2]
  unfold encd
  simp only
  rw [z1, z2, List.append_assoc, ← p2]
  exact p1

theorem tks_back {L : List Int} {e : Int} (hB : Bts L) : ∀ k, (tks L e k).2.2 = 0 → e = 0 ∧ L = encs (tks L e k).1 ++ (tks L e k).2.1 ∧ Bts (tks L e k).2.1
  | 0, h => ⟨h, by simp [tks, encs], hB⟩
  | k + 1, h => by
    have h2 : (tk (tks L e k).2.1 (tks L e k).2.2).2.2 = 0 := h
    have h1 : (tks L e k).2.2 = 0 := Classical.byContradiction fun hne => by
      have : (tk (tks L e k).2.1 (tks L e k).2.2).2.2 = (tks L e k).2.2 := by
        unfold tk
        simp only
        rw [dec_dead _ _ hne, dec_dead _ _ hne]
      rw [this] at h2
      exact hne h2
    obtain ⟨he, p1, b1⟩ := tks_back hB k h1
    obtain ⟨_, p2, b2⟩ := tk_back b1 h2
    refine ⟨he, ?_, b2⟩
    show L = encs ((tks L e k).1 ++ [(tk (tks L e k).2.1 (tks L e k).2.2).1]) ++ (tk (tks L e k).2.1 (tks L e k).2.2).2.1
    rw [encs_snoc, List.append_assoc, ← p2]
    exact p1

theorem cnt_back {L : List Int} {e m : Int} (h : (cnt L e m).2.2 = 0) : cnt L e m = dec L e := by
  unfold cnt at h ⊢
  split at h
  · simp at h
  · rename_i hc
    rw [if_neg hc]

theorem vtk_back {L : List Int} {e : Int} (hB : Bts L) (h : (vtk L e).2.2 = 0) : e = 0 ∧ L = encv (vtk L e).1 ++ (vtk L e).2.1 ∧ VM (vtk L e).1 ∧ Bts (vtk L e).2.1 := by
  unfold vtk at h ⊢
  generalize hs : tks (cnt L e 2).2.1 (cnt L e 2).2.2 (cnt L e 2).1.toNat = s at h ⊢
  unfold vfin at h ⊢
  by_cases h1 : s.2.2 = 0
  · rw [if_pos h1] at h ⊢
    by_cases h2 : vmb s.1 = true
    · rw [if_pos h2] at h ⊢
      have hc : (cnt L e 2).2.2 = 0 := Classical.byContradiction fun hne => by
        have hz : ∀ k, (tks (cnt L e 2).2.1 (cnt L e 2).2.2 k).2.2 = (cnt L e 2).2.2 := by
          intro k
          induction k with
          | zero => rfl
          | succ k ih =>
            show (tk (tks (cnt L e 2).2.1 (cnt L e 2).2.2 k).2.1 (tks (cnt L e 2).2.1 (cnt L e 2).2.2 k).2.2).2.2 = _
            unfold tk
            simp only
            rw [ih, dec_dead _ _ hne, dec_dead _ _ hne]
        have := hz (cnt L e 2).1.toNat
        rw [hs] at this
        rw [this] at h1
        exact hne h1
      have hcd := cnt_back hc
      rw [hcd] at hs hc
      obtain ⟨he, p1, z1, b1⟩ := dec_back hB hc
      have hlen := tks_length (dec L e).2.1 (dec L e).2.2 (dec L e).1.toNat
      rw [hs] at hlen
      have h1' : (tks (dec L e).2.1 (dec L e).2.2 (dec L e).1.toNat).2.2 = 0 := by rw [hs]; exact h1
      obtain ⟨_, p2, b2⟩ := tks_back b1 _ h1'
      rw [hs] at p2 b2
      refine ⟨he, ?_, (vmb_iff _).1 h2, b2⟩
      have hu := (dec_u64 L e hB).1
      unfold encv
      rw [hlen, Int.toNat_of_nonneg hu, List.append_assoc, ← p2]
      exact p1
    · rw [if_neg h2] at h
      simp at h
  · rw [if_neg h1] at h
    exact absurd h h1

theorem sb_str {l : List Int} (h : Bts l) : sb (strOfNums l) = l := by
  unfold sb
  rw [strOfNums_data, List.map_map]
  conv => rhs; rw [← List.map_id l]
  apply List.map_congr_left
  intro x hx
  have := h x hx
  simp only [Function.comp, UInt8.toNat_ofNat', id]
  omega

theorem rtx_back {L : List Int} {e : Int} (hB : Bts L) (h : (rtx L e).2.2 = 0) : e = 0 ∧ L = (enc (strOfNums (rtx L e).1).size ++ sb (strOfNums (rtx L e).1)) ++ (rtx L e).2.1 ∧ Bts (rtx L e).2.1 := by
  have hc : (cnt L e 1).2.2 = 0 := h
  have hr := cnt_range L e hB
  unfold rtx
  have hcd := cnt_back hc
  rw [hcd] at hc hr ⊢
  obtain ⟨he, p1, z1, b1⟩ := dec_back hB hc
  obtain ⟨n, hn⟩ := Int.eq_ofNat_of_zero_le hr.1
  rw [hn] at hr p1 ⊢
  simp only [Int.toNat_natCast]
  have hbt : Bts ((dec L e).2.1.take n) := fun x hx => b1 x (List.mem_of_mem_take hx)
  refine ⟨he, ?_, fun x hx => b1 x (List.mem_of_mem_drop hx)⟩
  rw [str_size, sb_str hbt, List.length_take, Nat.min_eq_left (by omega), List.append_assoc, List.take_append_drop]
  exact p1

theorem prt_back {k : Int} {L : List Int} {e : Int} (hB : Bts L) (hk : k = 1 ∨ k = 2 ∨ k = 3) (h : (prt k L e).2.2 = 0) (d : Dt) (t : Int) (g : Dt) : e = 0 ∧ L = encp (mko d t k g (prt k L e).1) ++ (prt k L e).2.1 := by
  rcases hk with hk | hk | hk
  · have hE : encp (mko d t k g (prt k L e).1) = _ := encp_ins (o := mko d t k g (prt k L e).1) hk
    rw [hE]
    rw [prt_ins hk] at h ⊢
    simp only at h ⊢
    have h2 : (dec (tk L e).2.1 (tk L e).2.2).2.2 = 0 := Classical.byContradiction fun hne => by rw [dec_dead _ _ hne] at h; exact hne h
    have h1 : (tk L e).2.2 = 0 := Classical.byContradiction fun hne => by rw [dec_dead _ _ hne] at h2; exact hne h2
    obtain ⟨he, p1, b1⟩ := tk_back hB h1
    obtain ⟨_, p2, z2, b2⟩ := dec_back b1 h2
    obtain ⟨_, p3, z3, b3⟩ := dec_back b2 h
    refine ⟨he, ?_⟩
    show L = encd (tk L e).1 ++ enc (zig (dint (dec (tk L e).2.1 (tk L e).2.2).1)) ++ enc (zig (dint (dec (dec (tk L e).2.1 (tk L e).2.2).2.1 (dec (tk L e).2.1 (tk L e).2.2).2.2).1)) ++ (dec (dec (tk L e).2.1 (tk L e).2.2).2.1 (dec (tk L e).2.1 (tk L e).2.2).2.2).2.1
    rw [z2, z3, List.append_assoc, ← p3, List.append_assoc, ← p2]
    exact p1
  · have hE : encp (mko d t k g (prt k L e).1) = _ := encp_del (o := mko d t k g (prt k L e).1) hk
    rw [hE]
    rw [prt_del hk] at h ⊢
    obtain ⟨he, p1, b1⟩ := tk_back hB h
    exact ⟨he, p1⟩
  · have hE : encp (mko d t k g (prt k L e).1) = _ := encp_mov (o := mko d t k g (prt k L e).1) hk
    rw [hE]
    rw [prt_mov hk] at h ⊢
    simp only at h ⊢
    have h1 : (tk L e).2.2 = 0 := Classical.byContradiction fun hne => by
      have : (rtx (tk L e).2.1 (tk L e).2.2).2.2 = (tk L e).2.2 := by
        unfold rtx cnt
        rw [dec_dead _ _ hne]
        simp
      rw [this] at h
      exact hne h
    obtain ⟨he, p1, b1⟩ := tk_back hB h1
    obtain ⟨_, p2, b2⟩ := rtx_back b1 h
    refine ⟨he, ?_⟩
    show L = encd (tk L e).1 ++ (enc (strOfNums (rtx (tk L e).2.1 (tk L e).2.2).1).size ++ sb (strOfNums (rtx (tk L e).2.1 (tk L e).2.2).1)) ++ (rtx (tk L e).2.1 (tk L e).2.2).2.1
    rw [List.append_assoc, ← p2]
    exact p1

theorem tk_dead {L : List Int} {e : Int} (h : e ≠ 0) : (tk L e).2.2 = e := by
  unfold tk
  simp only
  rw [dec_dead _ _ h, dec_dead _ _ h]

theorem prt_dead {k : Int} {L : List Int} {e : Int} (h : e ≠ 0) : (prt k L e).2.2 = e := by
  unfold prt
  split
  · simp only
    rw [tk_dead h, dec_dead _ _ h, dec_dead _ _ h]
  · split
    · exact tk_dead h
    · split
      · simp only
        rw [tk_dead h]
        unfold rtx cnt
        rw [dec_dead _ _ h]
        simp
      · rfl

theorem otk_back {L : List Int} (hB : Bts L) (h : (otk L 0).2.2 = 0) : chk (otk L 0).1.1 (otk L 0).1.2 = true ∧ L = enco (otk L 0).1.1 (otk L 0).1.2 ++ (otk L 0).2.1 ∧ VM (otk L 0).1.2 := by
  unfold otk tl7 at h ⊢
  unfold ofin at h ⊢
  by_cases h7 : (prt (hd7 L 0).1.2.2.2 (tk (hd7 L 0).2.1 (hd7 L 0).2.2).2.1 (tk (hd7 L 0).2.1 (hd7 L 0).2.2).2.2).2.2 = 0
  · rw [if_pos h7] at h ⊢
    split at h
    · rename_i hc
      rw [if_pos hc]
      refine ⟨hc, ?_⟩
      have h6 : (tk (hd7 L 0).2.1 (hd7 L 0).2.2).2.2 = 0 := Classical.byContradiction fun hne => by rw [prt_dead hne] at h7; exact hne h7
      have h5 : (hd7 L 0).2.2 = 0 := Classical.byContradiction fun hne => by rw [tk_dead hne] at h6; exact hne h6
      have hk : (hd7 L 0).1.2.2.2 = 1 ∨ (hd7 L 0).1.2.2.2 = 2 ∨ (hd7 L 0).1.2.2.2 = 3 := Classical.byContradiction fun hno => by
        have : (hd7 L 0).2.2 ≠ 0 := by
          show (kfl (hd7 L 0).1.2.2.2 _).2 ≠ 0
          rw [kfl_no (fun e => hno (.inl e)) (fun e => hno (.inr (.inl e))) (fun e => hno (.inr (.inr e)))]
          exact flr_ne 11 (by decide) _
        exact this h5
      have hkf : (hd7 L 0).2 = (dec (vtk (dec (tk L 0).2.1 (tk L 0).2.2).2.1 (dec (tk L 0).2.1 (tk L 0).2.2).2.2).2.1 (vtk (dec (tk L 0).2.1 (tk L 0).2.2).2.1 (dec (tk L 0).2.1 (tk L 0).2.2).2.2).2.2).2 := kfl_yes hk _
      rw [hkf] at h5
      have h3 : (vtk (dec (tk L 0).2.1 (tk L 0).2.2).2.1 (dec (tk L 0).2.1 (tk L 0).2.2).2.2).2.2 = 0 := Classical.byContradiction fun hne => by rw [dec_dead _ _ hne] at h5; exact hne h5
      have h2 : (dec (tk L 0).2.1 (tk L 0).2.2).2.2 = 0 := Classical.byContradiction fun hne => by
        have : (vtk (dec (tk L 0).2.1 (tk L 0).2.2).2.1 (dec (tk L 0).2.1 (tk L 0).2.2).2.2).2.2 = (dec (tk L 0).2.1 (tk L 0).2.2).2.2 := by
          generalize (dec (tk L 0).2.1 (tk L 0).2.2).2.1 = X
          generalize (dec (tk L 0).2.1 (tk L 0).2.2).2.2 = y at hne
          unfold vtk cnt
          rw [dec_dead _ _ hne]
          simp [tks, vfin, hne]
        rw [this] at h3
        exact hne h3
      have h1 : (tk L 0).2.2 = 0 := Classical.byContradiction fun hne => by rw [dec_dead _ _ hne] at h2; exact hne h2
      obtain ⟨_, p1, b1⟩ := tk_back hB h1
      obtain ⟨_, p2, z2, b2⟩ := dec_back b1 h2
      obtain ⟨_, p3, v3, b3⟩ := vtk_back b2 h3
      obtain ⟨_, p4, z4, b4⟩ := dec_back b3 h5
      rw [← hkf] at b4 p4
      obtain ⟨_, p6, b6⟩ := tk_back b4 h6
      obtain ⟨_, p7⟩ := prt_back b6 hk h7 (hd7 L 0).1.1 (hd7 L 0).1.2.1 (tk (hd7 L 0).2.1 (hd7 L 0).2.2).1
      refine ⟨?_, v3⟩
      show L = encd (tk L 0).1 ++ enc (zig (dint (dec (tk L 0).2.1 (tk L 0).2.2).1)) ++ encv (vtk (dec (tk L 0).2.1 (tk L 0).2.2).2.1 (dec (tk L 0).2.1 (tk L 0).2.2).2.2).1 ++ (enc (zig (dint (dec (vtk (dec (tk L 0).2.1 (tk L 0).2.2).2.1 (dec (tk L 0).2.1 (tk L 0).2.2).2.2).2.1 (vtk (dec (tk L 0).2.1 (tk L 0).2.2).2.1 (dec (tk L 0).2.1 (tk L 0).2.2).2.2).2.2).1)) ++ encd (tk (hd7 L 0).2.1 (hd7 L 0).2.2).1) ++ encp (mko (hd7 L 0).1.1 (hd7 L 0).1.2.1 (hd7 L 0).1.2.2.2 (tk (hd7 L 0).2.1 (hd7 L 0).2.2).1 (prt (hd7 L 0).1.2.2.2 (tk (hd7 L 0).2.1 (hd7 L 0).2.2).2.1 (tk (hd7 L 0).2.1 (hd7 L 0).2.2).2.2).1) ++ (prt (hd7 L 0).1.2.2.2 (tk (hd7 L 0).2.1 (hd7 L 0).2.2).2.1 (tk (hd7 L 0).2.1 (hd7 L 0).2.2).2.2).2.1
      rw [z2, z4, List.append_assoc, ← p7]
      simp only [List.append_assoc]
      rw [← p6, ← p4, ← p3, ← p2]
      exact p1
    · simp at h
  · rw [if_neg h7] at h
    exact absurd h h7

theorem dw_may {d : Dt} (h : mayd d = true) : Dw d := by
  have := (mayd_iff d).1 h
  exact ⟨wf_i64 (by omega) (by omega), wf_i64 (by omega) (by omega)⟩

theorem dw_has {V : List Dt} {d : Dt} (h : hasv V d = true) : Dw d := by
  simp only [hasv, Bool.and_eq_true] at h
  exact dw_may h.1

/-- An operation that may be fits. -/
theorem chk_fit {o : OpIn} {V : List Dt} (h : chk o V = true) : OFit o ∧ VM V ∧ (o.kind = 1 ∨ o.kind = 2 ∨ o.kind = 3) := by
  simp only [chk, Bool.and_eq_true] at h
  obtain ⟨⟨hh, hb⟩, hp⟩ := h
  simp only [headb, Bool.and_eq_true, decide_eq_true_eq] at hh
  obtain ⟨⟨⟨⟨i1, i2⟩, i3⟩, i4⟩, i5⟩ := hh
  have z0 : Dw (0, 0) := ⟨by decide, by decide⟩
  by_cases k1 : o.kind = 1
  · rw [partb_ins V k1] at hp
    simp only [Bool.and_eq_true] at hp
    obtain ⟨⟨q1, q2⟩, q3⟩ := hp
    simp only [barb, pat, pch, ppl, k1] at hb
    simp at hb
    simp only [charb, Bool.and_eq_true, decide_eq_true_eq] at q3
    have hat : Dw o.at ∧ (o.side = 0 ∨ o.side = 1) := by
      unfold besb at q2
      split at q2
      · rename_i hz
        refine ⟨?_, .inr (by simpa using q2)⟩
        show Dw (o.at0, o.at1)
        rw [hz.1, hz.2]; exact z0
      · simp only [Bool.and_eq_true, Bool.or_eq_true, beq_iff_eq] at q2
        exact ⟨dw_has q2.1, q2.2⟩
    refine ⟨⟨dw_may i1, by omega, by omega, dw_has q1, hat.1, by omega, by omega, ?_, ?_⟩, (vmb_iff V).1 i4, .inl k1⟩
    · show Dw (o.pa0, o.pa1)
      rw [hb.1.1, hb.1.2]; exact z0
    · have : o.key.size = 0 := by rw [← tl_length]; simpa using hb.2
      omega
  by_cases k2 : o.kind = 2
  · rw [partb_del V k2] at hp
    simp only [Bool.and_eq_true] at hp
    simp only [barb, pat, pch, ppl, k2] at hb
    simp at hb
    refine ⟨⟨dw_may i1, by omega, by omega, dw_has hp.1, dw_has hp.2, by omega, by omega, ?_, ?_⟩, (vmb_iff V).1 i4, .inr (.inl k2)⟩
    · show Dw (o.pa0, o.pa1)
      rw [hb.2.1.1, hb.2.1.2]; exact z0
    · have : o.key.size = 0 := by rw [← tl_length]; simpa using hb.2.2
      omega
  by_cases k3 : o.kind = 3
  · rw [partb_mov V k3] at hp
    simp only [Bool.and_eq_true, Bool.or_eq_true, beq_iff_eq] at hp
    obtain ⟨⟨q1, q2⟩, q3⟩ := hp
    simp only [barb, pat, pch, ppl, k3] at hb
    simp at hb
    have hky := (kyb_iff _).1 q3
    refine ⟨⟨dw_may i1, by omega, by omega, ?_, ?_, by omega, by omega, ?_, ?_⟩, (vmb_iff V).1 i4, .inr (.inr k3)⟩
    · rcases q1 with q1 | q1
      · show Dw (o.bl0, o.bl1)
        rw [q1.1, q1.2]; exact dw_may i1
      · exact dw_has q1
    · show Dw (o.at0, o.at1)
      rw [hb.1.1, hb.1.2]; exact z0
    · simp only [parb, Bool.and_eq_true, Bool.or_eq_true, beq_iff_eq] at q2
      rcases q2.1 with (q | q) | q
      · show Dw (o.pa0, o.pa1)
        rw [q.1, q.2]; exact ⟨by decide, by decide⟩
      · show Dw (o.pa0, o.pa1)
        rw [q.1, q.2]; exact ⟨by decide, by decide⟩
      · exact dw_has q
    · have := hky.len
      rw [tl_length] at this
      omega
  · rw [partb_no V k1 k2 k3] at hp
    cases hp
end Go.Proofs.Ythipadnghdodlaa
