/- The first look: the well known sum, and a frame that is read. -/
import Derived.Test.YtajopapcknnfoaaFSplitB
import Derived.Lib.SlBytesConst
namespace Go.Proofs.Ytajopapcknnfoaa
open Go.RowKit

theorem sum_known : sumI [49, 50, 51, 52, 53, 54, 55, 56, 57] = 3808858755 := by decide +kernel
theorem ab_bts : Bts [97, 98] := by
  intro x hx
  simp only [List.mem_cons, List.not_mem_nil, or_false] at hx
  rcases hx with rfl | rfl <;> omega
theorem spl_one (B : List Int) (hb : Bts B) (hl : B.length ≤ 4194304) : spl (fr B) = ([B], B.length + 8) := by
  have h := spl_frs [B] [] (fun C hC => by simp at hC; subst hC; exact ⟨hb, hl⟩) Bts.nil
  have e : spl [] = ([], 0) := spl_bad (by rw [nx_short (by simp)]; simp)
  rw [e] at h
  simpa [frs, fr_length] using h
theorem digits_bts : Bts [49, 50, 51, 52, 53, 54, 55, 56, 57] := by
  intro x hx
  simp only [List.mem_cons, List.not_mem_nil, or_false] at hx
  rcases hx with rfl | rfl | rfl | rfl | rfl | rfl | rfl | rfl | rfl <;> omega

/-- Bytes that a text's row holds. -/
theorem src_lit (w : World) (C : Array Value) (L : List Int) (z : Nat × Nat) (h : C = (L.map (Value.int .u8)).toArray) : Src (w.alloc (.cells C 5 z)) (some ⟨w.heap.size, 0, none⟩) L.length L := by
  subst h
  refine ⟨rfl, fun _ => ⟨_, rfl, fun j v hj => ?_⟩⟩
  rw [Addr.add_lit, cell_of_row _ w.heap.size (0 + j) _ 5 z (heap_alloc_new w _), Nat.zero_add]
  simp [hj]

set_option maxHeartbeats 1000000 in
theorem awake_any (w : World) : Calls Try.prog 9 #[] w fun e w' => e = .returned (.bool true) ∧ Below w.heap.size w w' := by
  obtain ⟨i0, hi, hz0, hz1, hz2⟩ := info_parts Try.info5
  have kc := fun (w : World) (C : Array Value) (n c : Nat) => Lib.run_convert_bytes_const (P := Try.prog) w 22 5 C n c Try.underlying22 Try.underlying5
  go_enter Try.func9, Try.ntmps9
  go_wp2_with fail
  have r1 := src_lit w #[.int .u8 97, .int .u8 98] [97, 98] (2, 3) rfl
  have b1 : Below w.heap.size w (w.alloc (.cells #[.int .u8 97, .int .u8 98] 5 (2, 3))) := new_below w _
  refine (frame_any _ 2 2 [97, 98] _ r1 ab_bts (by simp) (by omega)).mono ?_
  rintro e w2 ⟨rfl, r2, b2⟩
  have b2' := bnext b1 b2
  obtain ⟨g, hg⟩ : ∃ g, g = (w.alloc (.cells #[.int .u8 97, .int .u8 98] 5 (2, 3))).heap.size := ⟨_, rfl⟩
  rw [← hg] at r2 b2 ⊢
  clear r1 b1 hg b2
  obtain ⟨F, hF⟩ : ∃ F, F = fr [97, 98] := ⟨_, rfl⟩
  have hFl : F.length = 10 := by rw [hF, fr_length]; rfl
  have hFb : Bts F := by rw [hF]; exact fr_bts ab_bts
  have hFs : spl F = ([[97, 98]], 10) := by rw [hF]; exact spl_one _ ab_bts (by simp)
  have hFn : nx (F ++ [7]) = (0, [97, 98], 10) := by rw [hF]; exact nx_fr _ _ (by simp)
  rw [← hF] at r2
  clear hF
  have hold : ∀ b, some (⟨g, 0, none⟩ : Addr) = some b → ∀ j u, (F.map (Value.int .u8))[j]? = some u → (w2.alloc (.cells #[.int .u8 7] 5)).cell? (b.add j) = some u := by
    intro b hbq j u hj
    obtain rfl := Option.some.inj hbq
    obtain ⟨_, ad, ha, hcc⟩ := src_pos (g := 0) (r2.src 10 hFl) (new_below w2 (.cells #[.int .u8 7] 5)) (by rw [List.length_map, hFl]; omega)
    obtain rfl := Option.some.inj ha
    exact hcc j u hj
  have hFn' : (F.map (Value.int .u8)).length = 10 * 1 := by rw [List.length_map, hFl]
  have kc' := hid kc
  clear kc
  go_wp2_with (at_builtin; refine wpList_append_grows _ rfl _ _ 22 rfl 5 i0 (.int .u8 0) 1 1 Try.underlying22 hi hz0 hz1 hz2 rfl (by decide) (some ⟨g, 0, none⟩) 10 10 (F.map (Value.int .u8)) rfl (by simp) hFn' hold ⟨w2.heap.size, 0, none⟩ 1 1 [.int .u8 7] rfl rfl (cell_one_new _ _ _) (by simp [Value.oneCell']) (by omega) (by unfold maxLen; omega) (by omega) ?_; intro v' w3 hown3 hgrow3)
  have b2s := b2'.size
  have b3 : Below w.heap.size w w3 := (b2'.alloc b2s _).grown hgrow3 (by simp; omega) (fun k hk => by cases hk)
  have b23 : Below w2.heap.size w2 w3 := (new_below w2 _).grown hgrow3 (by simp) (fun k hk => by cases hk)
  have hown3' : w3.ownsRow (w2.alloc (.cells #[.int .u8 7] 5)).heap.size 5 1 v' 11 ((F ++ [7]).map (Value.int .u8)) := by
    rw [List.map_append]; exact hown3
  obtain ⟨a3, c3, hv', h3c, _, h3n, h3s⟩ := owns_any hown3'
  have hN := next_any a3 11 c3 (F ++ [7]) w3 h3s (hFb.app (fun x hx => by simp at hx; subst hx; omega)) h3c (by omega) (fun h => (h3n h).1)
  rw [hFn] at hN
  rw [hv']
  clear hown3 hown3' hold hFn' hFn hv' hgrow3
  refine hN.mono ?_
  rintro e w4 ⟨v, u, rfl, b4, _, hok⟩
  obtain ⟨⟨a5, c5, rfl, _, _, s5⟩, a6, c6, rfl, _, _, _⟩ := hok rfl
  clear hN hok
  have r4 : Row w4 g F := (r2.below b23).below b4
  have b4' := bnext b3 b4
  have hS := split_any (some ⟨g, 0, none⟩) 10 10 F w4 (r4.src 10 hFl) hFb (by omega) (by omega)
  rw [hFs] at hS
  have k5 := fun w5 (h : Below w4.heap.size w4 w5) => conv_src (s5.below h) c5
  clear hFs r2 b23 r4
  go_wp2_with fail
  refine hS.mono ?_
  rintro e w5 ⟨a7, c7, rfl, _, b5⟩
  clear hS
  have b5' := bnext b4' b5
  have kc := kc'.out
  go_wp2_with fail
  clear kc
  have r6 := src_lit w5 #[.int .u8 49, .int .u8 50, .int .u8 51, .int .u8 52, .int .u8 53, .int .u8 54, .int .u8 55, .int .u8 56, .int .u8 57] [49, 50, 51, 52, 53, 54, 55, 56, 57] (9, 10) rfl
  obtain ⟨w6, hw6⟩ : ∃ w6, w6 = (w5.alloc (.cells #[.int .u8 49, .int .u8 50, .int .u8 51, .int .u8 52, .int .u8 53, .int .u8 54, .int .u8 55, .int .u8 56, .int .u8 57] 5 (9, 10))) := ⟨_, rfl⟩
  have b6 : Below w5.heap.size w5 w6 := by rw [hw6]; exact new_below w5 _
  rw [← hw6] at r6 ⊢
  clear hw6
  have hk : (convert 22 9 (.slice a5 2 c5)).run Try.prog w6 = .ok (.string ⟨#[97, 98]⟩) w6 := k5 _ (bnext b5 b6)
  clear k5
  have hSm := sum_any _ 9 9 _ w6 r6 digits_bts (by omega)
  rw [sum_known] at hSm
  clear r6
  refine hSm.mono ?_
  rintro e w7 ⟨rfl, rfl⟩
  clear hSm
  go_wp2_with fail
  go_ret
  exact ⟨rfl, bnext b5' b6⟩
end Go.Proofs.Ytajopapcknnfoaa
