/- The reference: the lines of a text. -/
import Derived.Test.YtnmdcdphpcpojaaGreatDoorOlShelfP
import Derived.Test.YtnmdcdphpcpojaaGreatDoorMMap
import Derived.Test.YtnmdcdphpcpojaaGreatDoorOlSmall
import Derived.BigQuiet
import Derived.Deep.CutRange
namespace Go.Proofs.YtnmdcdphpcpojaaGreatDoor
section
set_option linter.unusedVariables false
open Go.Lib

/-- Pairs of blanks ahead. -/
def prs : List UInt8 → Nat × List UInt8
  | [] => (0, [])
  | [b] => (0, [b])
  | b :: c :: r => if b = 32 ∧ c = 32 then ((prs r).1 + 1, (prs r).2) else (0, b :: c :: r)

/-- A text up to the end of its line; none: there is none. -/
def txt : List UInt8 → Option (List UInt8 × List UInt8)
  | [] => none
  | [b] => if b = 10 then some ([], []) else none
  | b :: c :: r => if b = 10 then some ([], c :: r) else if b = 92 then (if c = 92 then (txt r).map (fun x => (92 :: x.1, x.2)) else if c = 110 then (txt r).map (fun x => (10 :: x.1, x.2)) else none) else (txt (c :: r)).map (fun x => (b :: x.1, x.2))

theorem txt_10 (r : List UInt8) : txt (10 :: r) = some ([], r) := by cases r <;> simp [txt]
theorem txt_else {b : UInt8} (h1 : b ≠ 10) (h2 : b ≠ 92) (r : List UInt8) : txt (b :: r) = (txt r).map (fun x => (b :: x.1, x.2)) := by
  cases r with
  | nil => simp [txt, h1]
  | cons c r => simp [txt, h1, h2]
theorem txt_92 (r : List UInt8) : txt (92 :: 92 :: r) = (txt r).map (fun x => (92 :: x.1, x.2)) := by simp [txt]
theorem txt_110 (r : List UInt8) : txt (92 :: 110 :: r) = (txt r).map (fun x => (10 :: x.1, x.2)) := by simp [txt]
theorem txt_bad {c : UInt8} (h1 : c ≠ 92) (h2 : c ≠ 110) (r : List UInt8) : txt (92 :: c :: r) = none := by simp [txt, h1, h2]
theorem txt_bad1 : txt [92] = none := by simp [txt]
theorem txt_no10 : ∀ (n : Nat) (s : List UInt8), s.length ≤ n → (10 : UInt8) ∉ s → txt s = none := by
  intro n
  induction n with
  | zero =>
    intro s hs _
    rw [List.eq_nil_of_length_eq_zero (by omega : s.length = 0)]
    rfl
  | succ n ih =>
    intro s hs h
    match s with
    | [] => rfl
    | b :: r =>
      have hb : b ≠ 10 := fun e => h (by simp [e])
      have hr : (10 : UInt8) ∉ r := fun e => h (by simp [e])
      by_cases h92 : b = 92
      · subst h92
        match r with
        | [] => exact txt_bad1
        | c :: r =>
          have hr2 : (10 : UInt8) ∉ r := fun e => hr (by simp [e])
          by_cases h1 : c = 92
          · subst h1; rw [txt_92, ih r (by simp at hs; omega) hr2]; rfl
          · by_cases h2 : c = 110
            · subst h2; rw [txt_110, ih r (by simp at hs; omega) hr2]; rfl
            · exact txt_bad h1 h2 r
      · rw [txt_else hb h92, ih r (by simp at hs; omega) hr]
        rfl

theorem txt_line (q : List UInt8) : ∀ (n : Nat) (x : List UInt8), x.length ≤ n → (10 : UInt8) ∉ x → txt (x ++ 10 :: q) = (unesc x).map (fun t => (t, q)) := by
  intro n
  induction n with
  | zero =>
    intro x hx _
    have e : x = [] := List.eq_nil_of_length_eq_zero (by omega)
    subst e
    rw [List.nil_append, txt_10]
    simp [unesc]
  | succ n ih =>
    intro x hx h
    match x with
    | [] => rw [List.nil_append, txt_10]; simp [unesc]
    | b :: r =>
      have hb : b ≠ 10 := fun e => h (by simp [e])
      have hr : (10 : UInt8) ∉ r := fun e => h (by simp [e])
      by_cases h92 : b = 92
      · subst h92
        match r with
        | [] =>
          show txt (92 :: 10 :: q) = _
          rw [txt_bad (by decide) (by decide)]
          simp [unesc]
        | c :: r =>
          have hr2 : (10 : UInt8) ∉ r := fun e => hr (by simp [e])
          show txt (92 :: c :: (r ++ 10 :: q)) = _
          by_cases h1 : c = 92
          · subst h1
            rw [txt_92, ih r (by simp at hx; omega) hr2]
            simp only [unesc, if_true, Option.map_map]
            rfl
          · by_cases h2 : c = 110
            · subst h2
              rw [txt_110, ih r (by simp at hx; omega) hr2]
              simp only [unesc, if_true, if_neg h1, Option.map_map]
              rfl
            · rw [txt_bad h1 h2]
              simp [unesc, h1, h2]
      · rw [List.cons_append, txt_else hb h92, ih r (by simp at hx; omega) hr, unesc_else h92, Option.map_map, Option.map_map]
        rfl

theorem prs_pair (r : List UInt8) : prs (32 :: 32 :: r) = ((prs r).1 + 1, (prs r).2) := by simp [prs]
theorem prs_else {b c : UInt8} (h : ¬ (b = 32 ∧ c = 32)) (r : List UInt8) : prs (b :: c :: r) = (0, b :: c :: r) := by
  simp only [prs]
  rw [if_neg h]

theorem prs_len : ∀ (n : Nat) (s : List UInt8), s.length ≤ n → 2 * (prs s).1 + (prs s).2.length = s.length := by
  intro n
  induction n with
  | zero =>
    intro s hs
    rw [List.eq_nil_of_length_eq_zero (by omega : s.length = 0)]
    rfl
  | succ n ih =>
    intro s hs
    match s with
    | [] => rfl
    | [b] => simp [prs]
    | b :: c :: r =>
      by_cases h : b = 32 ∧ c = 32
      · obtain ⟨rfl, rfl⟩ := h
        rw [prs_pair]
        have := ih r (by simp at hs; omega)
        simp
        omega
      · rw [prs_else h]
        simp

theorem prs_app (q : List UInt8) : ∀ (n : Nat) (p : List UInt8), p.length ≤ n → prs (p ++ 10 :: q) = ((prs p).1, (prs p).2 ++ 10 :: q) := by
  intro n
  induction n with
  | zero =>
    intro p hp
    have e : p = [] := List.eq_nil_of_length_eq_zero (by omega)
    subst e
    cases q with
    | nil => simp [prs]
    | cons c q => rw [List.nil_append, prs_else (by simp)]; simp [prs]
  | succ n ih =>
    intro p hp
    match p with
    | [] =>
      cases q with
      | nil => simp [prs]
      | cons c q => rw [List.nil_append, prs_else (by simp)]; simp [prs]
    | [b] =>
      show prs (b :: 10 :: q) = _
      rw [prs_else (by simp)]
      simp [prs]
    | b :: c :: r =>
      show prs (b :: c :: (r ++ 10 :: q)) = _
      by_cases h : b = 32 ∧ c = 32
      · obtain ⟨rfl, rfl⟩ := h
        rw [prs_pair, prs_pair, ih r (by simp at hp; omega)]
      · rw [prs_else h, prs_else h]
        simp

theorem rline_pair (r : List UInt8) : rline (32 :: 32 :: r) = (rline r).map (fun x => (x.1 + 1, x.2)) := by
  have e : trimLeftB (32 :: 32 :: r) 32 = trimLeftB r 32 := by unfold trimLeftB; simp
  have hl := (trim_split r).2
  unfold rline
  rw [e]
  have e2 : (32 :: 32 :: r).length - (trimLeftB r 32).length = (r.length - (trimLeftB r 32).length) + 2 := by simp; omega
  rw [e2]
  have e3 : (r.length - (trimLeftB r 32).length + 2) % 2 = (r.length - (trimLeftB r 32).length) % 2 := by omega
  have e4 : (r.length - (trimLeftB r 32).length + 2) / 2 = (r.length - (trimLeftB r 32).length) / 2 + 1 := by omega
  rw [e3, e4]
  split
  · rw [Option.map_map]
    rfl
  · rfl

/-- A line, by its pairs of blanks. -/
theorem rline_prs : ∀ (n : Nat) (p : List UInt8), p.length ≤ n → (∀ x, (prs p).2 = 45 :: 32 :: x → rline p = (unesc x).map (fun t => ((prs p).1, t))) ∧ ((∀ x, (prs p).2 ≠ 45 :: 32 :: x) → rline p = none) := by
  have base : ∀ p : List UInt8, prs p = (0, p) → (∀ r, p ≠ 32 :: 32 :: r) → (∀ x, (prs p).2 = 45 :: 32 :: x → rline p = (unesc x).map (fun t => ((prs p).1, t))) ∧ ((∀ x, (prs p).2 ≠ 45 :: 32 :: x) → rline p = none) := by
    intro p hp hno
    rw [hp]
    refine ⟨fun x hx => ?_, fun hx => ?_⟩
    · simp only at hx
      subst hx
      have e : trimLeftB (45 :: 32 :: x) 32 = 45 :: 32 :: x := by unfold trimLeftB; simp
      unfold rline
      rw [e, if_pos ⟨by simp, by simp [hasPrefix]⟩]
      simp
    · simp only at hx
      match p, hno, hx with
      | [], _, _ => simp [rline, trimLeftB, hasPrefix]
      | b :: r, hno, hx =>
        by_cases hb : b = 32
        · subst hb
          match r, hno with
          | [], _ => simp [rline, trimLeftB, hasPrefix]
          | c :: r, hno =>
            have hc : c ≠ 32 := fun e => hno r (by rw [e])
            have e : trimLeftB (32 :: c :: r) 32 = c :: r := by unfold trimLeftB; simp [hc]
            unfold rline
            rw [e, if_neg (fun h => by have := h.1; simp at this)]
        · have e : trimLeftB (b :: r) 32 = b :: r := by unfold trimLeftB; simp [hb]
          unfold rline
          rw [e, if_neg (fun h => ?_)]
          have h2 := h.2
          unfold hasPrefix at h2
          match r, h2, hx with
          | [], h2, _ => simp at h2
          | c :: r, h2, hx =>
            simp at h2
            exact hx r (by rw [← h2.1, ← h2.2])
  intro n
  induction n with
  | zero =>
    intro p hp
    rw [List.eq_nil_of_length_eq_zero (by omega : p.length = 0)]
    exact base [] rfl (by simp)
  | succ n ih =>
    intro p hp
    match p with
    | [] => exact base [] rfl (by simp)
    | [b] => exact base [b] rfl (by simp)
    | b :: c :: r =>
      by_cases h : b = 32 ∧ c = 32
      · obtain ⟨rfl, rfl⟩ := h
        obtain ⟨h1, h2⟩ := ih r (by simp at hp; omega)
        rw [prs_pair, rline_pair]
        refine ⟨fun x hx => ?_, fun hx => ?_⟩
        · rw [h1 x hx, Option.map_map]
          rfl
        · rw [h2 hx]
          rfl
      · exact base _ (prs_else h r) (fun r' e => h (by simp at e; exact ⟨e.1, e.2.1⟩))

/-- One line by the reference's steps. -/
theorem rd_ref_bad {f deep : Nat} {s : List UInt8} (hs : s ≠ []) (h : ∀ x, (prs s).2 ≠ 45 :: 32 :: x) : rdL (f + 1) deep s = none := by
  unfold rdL
  rw [if_neg hs]
  rcases cut_cases 10 s with hn | ⟨p, q, rfl, hp⟩
  · rw [cut_no hn]
    simp
  · rw [cut_mid hp]
    rw [prs_app q p.length p (Nat.le_refl _)] at h
    have := (rline_prs p.length p (Nat.le_refl _)).2 (fun x hx => h (x ++ 10 :: q) (by show (prs p).2 ++ 10 :: q = _; rw [hx]; rfl))
    simp [this]

theorem rd_ref {f deep : Nat} {s x : List UInt8} (h : (prs s).2 = 45 :: 32 :: x) : rdL (f + 1) deep s = (match txt x with
    | none => none
    | some y => if deep < (prs s).1 then none else (rdL f ((prs s).1 + 1) y.2).map (((prs s).1, y.1) :: ·)) := by
  have hs : s ≠ [] := fun e => by subst e; simp [prs] at h
  conv => lhs; unfold rdL
  rw [if_neg hs]
  rcases cut_cases 10 s with hn | ⟨p, q, rfl, hp⟩
  · rw [cut_no hn]
    have hx : (10 : UInt8) ∉ x := by
      intro hm
      have key : ∀ (n : Nat) (s : List UInt8), s.length ≤ n → ∀ y ∈ (prs s).2, y ∈ s := by
        intro n
        induction n with
        | zero =>
          intro s hs
          rw [List.eq_nil_of_length_eq_zero (by omega : s.length = 0)]
          simp [prs]
        | succ n ih =>
          intro s hs y hy
          match s with
          | [] => simp [prs] at hy
          | [b] => simpa [prs] using hy
          | b :: c :: r =>
            by_cases h : b = 32 ∧ c = 32
            · obtain ⟨rfl, rfl⟩ := h
              rw [prs_pair] at hy
              have := ih r (by simp at hs; omega) y hy
              simp [this]
            · rw [prs_else h] at hy
              exact hy
      exact hn (key s.length s (Nat.le_refl _) 10 (by rw [h]; simp [hm]))
    rw [txt_no10 x.length x (Nat.le_refl _) hx]
    simp
  · rw [cut_mid hp]
    rw [prs_app q p.length p (Nat.le_refl _)] at h ⊢
    simp only at h ⊢
    have hp2 : ∃ z, (prs p).2 = 45 :: 32 :: z ∧ x = z ++ 10 :: q := by
      match e : (prs p).2, h with
      | [], h => simp at h
      | [b], h => simp at h
      | b :: c :: z, h =>
        simp at h
        exact ⟨z, by rw [h.1, h.2.1], h.2.2.symm⟩
    obtain ⟨z, hz, rfl⟩ := hp2
    have hz10 : (10 : UInt8) ∉ z := by
      intro hm
      have key : ∀ (n : Nat) (s : List UInt8), s.length ≤ n → ∀ y ∈ (prs s).2, y ∈ s := by
        intro n
        induction n with
        | zero =>
          intro s hs
          rw [List.eq_nil_of_length_eq_zero (by omega : s.length = 0)]
          simp [prs]
        | succ n ih =>
          intro s hs y hy
          match s with
          | [] => simp [prs] at hy
          | [b] => simpa [prs] using hy
          | b :: c :: r =>
            by_cases h : b = 32 ∧ c = 32
            · obtain ⟨rfl, rfl⟩ := h
              rw [prs_pair] at hy
              have := ih r (by simp at hs; omega) y hy
              simp [this]
            · rw [prs_else h] at hy
              exact hy
      exact hp (key p.length p (Nat.le_refl _) 10 (by rw [hz]; simp [hm]))
    rw [(rline_prs p.length p (Nat.le_refl _)).1 z hz, txt_line q z.length z (Nat.le_refl _) hz10]
    cases unesc z with
    | none => simp
    | some t => simp
end

section
set_option linter.unusedVariables false
set_option linter.unusedSimpArgs false
open Go.RowKit Go.Shelf

/-- How deep the next line may be. -/
def deepL : List (Nat × List UInt8) → Nat
  | [] => 0
  | [x] => x.1 + 1
  | _ :: y :: l => deepL (y :: l)
theorem deepL_snoc : ∀ (l : List (Nat × List UInt8)) (x : Nat × List UInt8), deepL (l ++ [x]) = x.1 + 1
  | [], x => rfl
  | [y], x => rfl
  | _ :: y :: l, x => deepL_snoc (y :: l) x

theorem at_pre {s pre rest : List UInt8} {b : UInt8} (h : s = pre ++ b :: rest) (hl : pre.length < (⟨s.toArray⟩ : ByteArray).size) : (⟨s.toArray⟩ : ByteArray)[pre.length]'hl = b := by
  subst h
  show (pre ++ b :: rest).toArray[pre.length] = b
  simp
theorem at_pre1 {s pre rest : List UInt8} {b c : UInt8} (h : s = pre ++ b :: c :: rest) (hl : pre.length + 1 < (⟨s.toArray⟩ : ByteArray).size) : (⟨s.toArray⟩ : ByteArray)[pre.length + 1]'hl = c := by
  subst h
  show (pre ++ b :: c :: rest).toArray[pre.length + 1] = c
  simp

theorem at_preI {s pre rest : List UInt8} {b : UInt8} {J : Nat} (hJ : J = pre.length) (h : s = pre ++ b :: rest) (hl : J < (⟨s.toArray⟩ : ByteArray).size) : (⟨s.toArray⟩ : ByteArray)[J]'hl = b := by
  subst hJ
  exact at_pre h hl
theorem at_preI1 {s pre rest : List UInt8} {b c : UInt8} {J : Nat} (hJ : J = pre.length) (h : s = pre ++ b :: c :: rest) (hl : J + 1 < (⟨s.toArray⟩ : ByteArray).size) : (⟨s.toArray⟩ : ByteArray)[J + 1]'hl = c := by
  subst hJ
  exact at_pre1 h hl
theorem u8_ne {b : UInt8} {k : Nat} (hk : k < 256) (h : b ≠ UInt8.ofNat k) : ((b.toNat : Nat) : Int) ≠ (k : Int) := fun e => h (UInt8.toNat_inj.1 (by rw [UInt8.toNat_ofNat']; omega))

/-- Are two blanks ahead? -/
def blk : List UInt8 → Bool
  | b :: c :: _ => decide (b = 32) && decide (c = 32)
  | _ => false
theorem blk_yes {l : List UInt8} (h : blk l = true) : ∃ r, l = 32 :: 32 :: r := by
  match l, h with
  | b :: c :: r, h =>
    unfold blk at h
    rw [Bool.and_eq_true, decide_eq_true_eq, decide_eq_true_eq] at h
    exact ⟨r, by rw [h.1, h.2]⟩
theorem sl_one {s pre rest : List UInt8} {b : UInt8} {K : Nat} (hK : K = pre.length) (h : s = pre ++ b :: rest) : (⟨s.toArray⟩ : ByteArray).extract K (K + 1) = ⟨#[b]⟩ := by
  subst hK
  subst h
  apply ByteArray.ext
  rw [ByteArray.data_extract]
  simp
theorem olcat (x y : List UInt8) : (ByteArray.mk x.toArray ++ ByteArray.mk y.toArray) = ByteArray.mk (x ++ y).toArray := by
  apply ByteArray.ext
  simp [ByteArray.data_append]
def dsh : List UInt8 → Bool
  | b :: c :: _ => decide (b = 45) && decide (c = 32)
  | _ => false
theorem dsh_yes {l : List UInt8} (h : dsh l = true) : ∃ r, l = 45 :: 32 :: r := by
  match l, h with
  | b :: c :: r, h =>
    unfold dsh at h
    rw [Bool.and_eq_true, decide_eq_true_eq, decide_eq_true_eq] at h
    exact ⟨r, by rw [h.1, h.2]⟩
theorem deepL_last : ∀ {L : List (Nat × List UInt8)}, L ≠ [] → ∃ y, L[L.length - 1]? = some y ∧ deepL L = y.1 + 1
  | [], h => absurd rfl h
  | [x], _ => ⟨x, rfl, rfl⟩
  | x :: y :: l, _ => by
    obtain ⟨z, h1, h2⟩ := deepL_last (L := y :: l) (by simp)
    exact ⟨z, by simpa using h1, h2⟩
theorem blk_no {l : List UInt8} (h : blk l = false) : prs l = (0, l) := by
  match l, h with
  | [], _ => rfl
  | [b], _ => rfl
  | b :: c :: r, h =>
    refine prs_else (fun e => ?_) r
    unfold blk at h
    rw [e.1, e.2] at h
    simp at h

set_option maxRecDepth 100000 in
set_option maxHeartbeats 8000000 in
theorem rread_any (s : List UInt8) (w : World) (hs : s.length ≤ 2000) :
    Calls Tryz.prog 21 #[.string (sB s)] w fun e w' => ∃ v, e = .returned (.tuple #[v, .int .i64 (rdE s)]) ∧ w'.ownsRow w.heap.size 54 4 v (rdM s).length (flLn (rdM s)) ∧ Below w.heap.size w w' := by
  have hbad : Hid (rdR s = none → rdM s = [] ∧ rdE s = 11) := hid (fun h => by unfold rdM rdE; rw [h]; exact ⟨rfl, rfl⟩)
  show Calls Tryz.prog 21 #[.string ⟨s.toArray⟩] w _
  go_enter Tryz.func21, Tryz.ntmps21
  go_wp2_with fail
  go_loopw [4, 5] (fun o i wr => ∃ (pre rest : List UInt8) (L : List (Nat × List UInt8)) (f I nL : Nat), i = .int .i64 I ∧ Hid (s = pre ++ rest ∧ I = pre.length ∧ rest.length < f ∧ nL = L.length) ∧ I + rest.length = s.length ∧ nL ≤ I ∧ Hid (∀ y ∈ L, y.1 ≤ s.length) ∧ Hid (rdR s = (rdL f (deepL L) rest).map (L ++ ·)) ∧ Hid (wr.ownsRow w.heap.size 54 4 o nL (flLn (L.map toLn)) ∧ Below w.heap.size w wr)) (fun _ i _ => s.length - (intOf i).toNat)
  case atStart => exact ⟨[], s, [], s.length + 1, 0, 0, rfl, hid ⟨rfl, rfl, by omega, rfl⟩, by omega, by omega, hid (by simp), hid (by unfold rdR; simp [deepL]), hid ⟨World.ownsRow_nil _ _ _ _, Below.refl _ _⟩⟩
  case round =>
    obtain ⟨pre, rest, L, f, I, nL, rfl, HP, hI, hnL, HYB, HR, HO⟩ := hrel
    obtain ⟨a4, c4, hv4, hL4⟩ := own_lns HO.out.1
    subst hv4
    by_cases hre : rest = []
    · have HF : Hid (rdR s = some L) := hid (by
        obtain ⟨f', hf'⟩ : ∃ f', f = f' + 1 := ⟨f - 1, by have := HP.out.2.2.1; omega⟩
        rw [HR.out, hre, hf', rd_nil]
        simp)
      have hIs : I = s.length := by rw [hre] at hI; simpa using hI
      have hIb : decide ((I : Int) < (s.length : Int)) = false := by simp; omega
      have HE : Hid (rdM s = L.map toLn ∧ rdE s = 0) := hid (by unfold rdM rdE; rw [HF.out]; exact ⟨rfl, rfl⟩)
      have hIs2 : ¬ ((I : Int) < (s.length : Int)) := by omega
      clear hre
      go_wp2
      go_ret2
      refine ⟨_, by rw [HE.out.2]; rfl, ?_, HO.out.2⟩
      rw [HE.out.1, List.length_map, ← HP.out.2.2.2]
      exact HO.out.1
    · have hIlt : I < s.length := by
        have : 0 < rest.length := List.length_pos_iff.2 hre
        omega
      have hIi : (I : Int) < (s.length : Int) := by omega
      have HRE := hid hre
      clear hre
      go_wp2_with fail
      obtain ⟨Wo, rfl⟩ : ∃ X, X = wr := ⟨wr, rfl⟩
      go_loopw [5, 6] (fun i d wr => ∃ (pre1 rest1 : List UInt8) (D J : Nat), i = .int .i64 J ∧ d = .int .i64 D ∧ Hid (s = pre1 ++ rest1 ∧ J = pre1.length ∧ (prs rest).1 = D + (prs rest1).1 ∧ (prs rest).2 = (prs rest1).2) ∧ J + rest1.length = s.length ∧ D ≤ J ∧ wr = Wo) (fun i _ _ => s.length - (intOf i).toNat)
      case atStart => exact ⟨pre, rest, 0, I, rfl, rfl, hid ⟨HP.out.1, HP.out.2.1, by omega, rfl⟩, hI, by omega, rfl⟩
      case round =>
        obtain ⟨pre1, rest1, D, J, rfl, rfl, HQ, hJ, hD, rfl⟩ := hrel
        obtain ⟨B, hB⟩ : ∃ B, B = blk rest1 := ⟨_, rfl⟩
        go_upto_region 5 with fail
        go_cut [29] from 12 to 33 (fun s wc => s = .bool B ∧ wr = wc)
        case first =>
          match rest1, HQ, hJ, hB with
          | [], HQ, hJ, hB =>
            have hJl : J = s.length := by simpa using hJ
            have h1 : ¬ ((J : Int) + 1 < (s.length : Int)) := by omega
            have HB := hid hB
            clear hB hJl HQ hJ
            go_wp2_with fail
            go_meet
            case rel => exact ⟨by rw [HB.out]; rfl, rfl⟩
          | [b], HQ, hJ, hB =>
            have h1 : ¬ ((J : Int) + 1 < (s.length : Int)) := by simp at hJ; omega
            have HB := hid hB
            clear hB HQ hJ
            go_wp2_with fail
            go_meet
            case rel => exact ⟨by rw [HB.out]; rfl, rfl⟩
          | b :: c :: r, HQ, hJ, hB =>
            have h1 : (J : Int) + 1 < (s.length : Int) := by simp at hJ; omega
            have h2 : (0 : Int) ≤ (J : Int) := by omega
            have h3 : (J : Int) < (s.length : Int) := by omega
            have hz0 : J < (⟨s.toArray⟩ : ByteArray).size := by show J < s.toArray.size; simp; omega
            have hz1 : J + 1 < (⟨s.toArray⟩ : ByteArray).size := by show J + 1 < s.toArray.size; simp; omega
            have hx0 : (⟨s.toArray⟩ : ByteArray)[J]'hz0 = b := at_preI HQ.out.2.1 HQ.out.1 hz0
            have hx1 : (⟨s.toArray⟩ : ByteArray)[J + 1]'hz1 = c := at_preI1 HQ.out.2.1 HQ.out.1 hz1
            have HB := hid hB
            clear hB HQ hJ hD
            by_cases hb : b = 32
            · by_cases hc : c = 32
              · have hBt : Hid (B = true) := hid (by rw [HB.out]; unfold blk; simp [hb, hc])
                have e1 : (((b.toNat : Nat) : Int) == 32) = true := by rw [hb]; rfl
                have e2 : (((c.toNat : Nat) : Int) == 32) = true := by rw [hc]; rfl
                have e3 : ((b.toNat : Nat) : Int) = 32 := by rw [hb]; rfl
                have e4 : ((c.toNat : Nat) : Int) = 32 := by rw [hc]; rfl
                clear hb hc
                go_wp2_with fail
                go_meet
                case rel => exact ⟨by rw [hBt.out], rfl⟩
              · have hBf : Hid (B = false) := hid (by rw [HB.out]; unfold blk; simp [hc])
                have e1 : (((b.toNat : Nat) : Int) == 32) = true := by rw [hb]; rfl
                have e2 : (((c.toNat : Nat) : Int) == 32) = false := by simpa using u8_ne (k := 32) (by decide) hc
                have e3 : ((b.toNat : Nat) : Int) = 32 := by rw [hb]; rfl
                have e4 : ((c.toNat : Nat) : Int) ≠ 32 := u8_ne (k := 32) (by decide) hc
                clear hb hc
                go_wp2_with fail
                go_meet
                case rel => exact ⟨by rw [hBf.out], rfl⟩
            · have hBf : Hid (B = false) := hid (by rw [HB.out]; unfold blk; simp [hb])
              have e1 : (((b.toNat : Nat) : Int) == 32) = false := by simpa using u8_ne (k := 32) (by decide) hb
              have e3 : ((b.toNat : Nat) : Int) ≠ 32 := u8_ne (k := 32) (by decide) hb
              clear hb
              go_wp2_with fail
              go_meet
              case rel => exact ⟨by rw [hBf.out], rfl⟩
        case rest =>
          obtain ⟨rfl, rfl⟩ := hcut
          cases B with
          | true =>
            obtain ⟨r, hr⟩ := blk_yes hB.symm
            have HN : Hid (s = (pre1 ++ [32, 32]) ++ r ∧ J + 2 = (pre1 ++ [32, 32]).length ∧ (prs rest).1 = D + 1 + (prs r).1 ∧ (prs rest).2 = (prs r).2) := hid (by
              obtain ⟨q1, q2, q3, q4⟩ := HQ.out
              rw [hr] at q1 q3 q4
              rw [prs_pair] at q3 q4
              exact ⟨by rw [q1]; simp, by rw [List.length_append, q2]; rfl, by rw [q3]; simp; omega, q4⟩)
            have hJ2 : J + 2 + r.length = s.length := by rw [hr] at hJ; simp at hJ; omega
            clear hr hB hJ
            go_wp2_with fail
            go_roundw
            case rel => exact ⟨pre1 ++ [32, 32], r, D + 1, J + 2, by go_num, by go_num, HN, hJ2, by omega, trivial⟩
            case measure => simp [intOf]; omega
          | false =>
            have HN : Hid ((prs rest).1 = D ∧ (prs rest).2 = rest1) := hid (by
              obtain ⟨q1, q2, q3, q4⟩ := HQ.out
              rw [blk_no hB.symm] at q3 q4
              exact ⟨by rw [q3]; rfl, q4⟩)
            clear hB
            go_upto_region 8 with fail
            obtain ⟨B8, hB8⟩ : ∃ B8, B8 = (!(dsh rest1) || decide (deepL L < D)) := ⟨_, rfl⟩
            have HB8 := hid hB8
            clear hB8
            go_cut [77] from 8 to 144 (fun s wc => s = .bool B8 ∧ wr = wc)
            case first =>
              match rest1, HQ, hJ, HB8 with
              | [], HQ, hJ, HB8 =>
                have hJl : J = s.length := by simpa using hJ
                have h1 : ¬ ((J : Int) + 1 < (s.length : Int)) := by omega
                have h1b : (s.length : Int) ≤ (J : Int) + 1 := by omega
                clear hJl hJ HN
                go_wp2_with fail
                go_meet
                case rel => exact ⟨by rw [HB8.out]; rfl, rfl⟩
              | [b], HQ, hJ, HB8 =>
                have h1 : ¬ ((J : Int) + 1 < (s.length : Int)) := by simp at hJ; omega
                have h1b : (s.length : Int) ≤ (J : Int) + 1 := by simp at hJ; omega
                clear hJ HN
                go_wp2_with fail
                go_meet
                case rel => exact ⟨by rw [HB8.out]; rfl, rfl⟩
              | b :: c :: r, HQ, hJ, HB8 =>
                have h1 : (J : Int) + 1 < (s.length : Int) := by simp at hJ; omega
                have h1c : ¬ ((s.length : Int) ≤ (J : Int) + 1) := by omega
                have h2 : (0 : Int) ≤ (J : Int) := by omega
                have h3 : (J : Int) < (s.length : Int) := by omega
                have hz0 : J < (⟨s.toArray⟩ : ByteArray).size := by show J < s.toArray.size; simp; omega
                have hz1 : J + 1 < (⟨s.toArray⟩ : ByteArray).size := by show J + 1 < s.toArray.size; simp; omega
                have hx0 : (⟨s.toArray⟩ : ByteArray)[J]'hz0 = b := at_preI HQ.out.2.1 HQ.out.1 hz0
                have hx1 : (⟨s.toArray⟩ : ByteArray)[J + 1]'hz1 = c := at_preI1 HQ.out.2.1 HQ.out.1 hz1
                clear hJ hD HN
                by_cases hb : b = 45
                · have e1 : (((b.toNat : Nat) : Int) == 45) = true := by rw [hb]; rfl
                  have e3 : ((b.toNat : Nat) : Int) = 45 := by rw [hb]; rfl
                  by_cases hc : c = 32
                  · have e2 : (((c.toNat : Nat) : Int) == 32) = true := by rw [hc]; rfl
                    have e4 : ((c.toNat : Nat) : Int) = 32 := by rw [hc]; rfl
                    have HB9 : Hid (B8 = decide (deepL L < D)) := hid (by rw [HB8.out]; unfold dsh; rw [hb, hc]; rfl)
                    clear hb hc HB8
                    by_cases hn0 : nL = 0
                    · have hL0 : L = [] := List.eq_nil_of_length_eq_zero (by rw [← HP.out.2.2.2]; exact hn0)
                      have HBA : Hid (B8 = decide ((0 : Int) < (D : Int))) := hid (by rw [HB9.out, hL0]; show decide (0 < D) = _; simp)
                      clear hL0 HB9 HR HO hL4 hnL HP
                      subst hn0
                      by_cases hd0 : 0 < D
                      · have hd1 : (0 : Int) < (D : Int) := by omega
                        have hd2 : decide ((0 : Int) < (D : Int)) = true := by simp [hd0]
                        have HBB : Hid (B8 = true) := hid (by rw [HBA.out, hd2])
                        clear HBA
                        go_wp2_with fail
                        go_meet
                        case rel => exact ⟨by rw [HBB.out], rfl⟩
                      · have hd2 : decide ((0 : Int) < (D : Int)) = false := by simp; omega
                        have HBB : Hid (B8 = false) := hid (by rw [HBA.out, hd2])
                        have hD0 : D = 0 := by omega
                        clear HBA hd0 hd2
                        subst hD0
                        go_wp2_with fail
                        go_meet
                        case rel => exact ⟨by rw [HBB.out], rfl⟩
                    · obtain ⟨y, hy, hdy⟩ := deepL_last (L := L) (fun e => hn0 (by rw [HP.out.2.2.2, e]; rfl))
                      rw [← HP.out.2.2.2] at hy
                      obtain ⟨g, o, z, rfl, hz, hg, _, _, d2, _⟩ := hL4.look (show nL - 1 < nL by omega)
                      rw [List.getElem?_map, hy] at hz
                      have hzd : z.d = (y.1 : Int) := by
                        simp at hz
                        rw [← hz]
                        rfl
                      rw [hzd] at d2
                      obtain ⟨yd, hyd⟩ : ∃ yd, yd = y.1 := ⟨_, rfl⟩
                      rw [← hyd] at d2 hdy
                      have HBA : Hid (B8 = decide ((yd : Int) + 1 < (D : Int))) := hid (by rw [HB9.out, hdy]; simp; omega)
                      have hydb : yd ≤ 1000000 := by
                        rcases Nat.lt_or_ge 1000000 yd with hlt | hge
                        · exfalso
                          exact absurd (HYB.out y (List.mem_of_getElem? hy)) (by rw [← hyd]; omega)
                        · exact hge
                      have hn1 : (0 : Int) < (nL : Int) := by omega
                      have hn2 : ((nL : Int) == 0) = false := by simp; omega
                      have hn3 : (nL : Int) - 1 < (nL : Int) := by omega
                      have hn4 : (0 : Int) ≤ (nL : Int) - 1 := by omega
                      have hn5 : nL ≤ 2000 := by omega
                      clear hz hzd hy hyd hdy HB9 HR HO hL4 hnL HP hn0
                      by_cases hd0 : yd + 1 < D
                      · have hd1 : (yd : Int) + 1 < (D : Int) := by omega
                        have hd2 : decide ((yd : Int) + 1 < (D : Int)) = true := by simp; omega
                        have HBB : Hid (B8 = true) := hid (by rw [HBA.out, hd2])
                        clear HBA
                        go_wp2_with fail
                        go_meet
                        case rel => exact ⟨by rw [HBB.out], rfl⟩
                      · have hd2 : decide ((yd : Int) + 1 < (D : Int)) = false := by simp; omega
                        have HBB : Hid (B8 = false) := hid (by rw [HBA.out, hd2])
                        have hd3 : ¬ ((yd : Int) + 1 < (D : Int)) := by omega
                        clear HBA hd0
                        go_wp2_with fail
                        go_meet
                        case rel => exact ⟨by rw [HBB.out], rfl⟩
                  · have e2 : (((c.toNat : Nat) : Int) == 32) = false := by simpa using u8_ne (k := 32) (by decide) hc
                    have e4 : ((c.toNat : Nat) : Int) ≠ 32 := u8_ne (k := 32) (by decide) hc
                    have HB9 : Hid (B8 = true) := hid (by rw [HB8.out]; unfold dsh; rw [hb]; simp [hc])
                    clear hb hc HB8
                    go_wp2_with fail
                    go_meet
                    case rel => exact ⟨by rw [HB9.out], rfl⟩
                · have e1 : (((b.toNat : Nat) : Int) == 45) = false := by simpa using u8_ne (k := 45) (by decide) hb
                  have e3 : ((b.toNat : Nat) : Int) ≠ 45 := u8_ne (k := 45) (by decide) hb
                  have HB9 : Hid (B8 = true) := hid (by rw [HB8.out]; unfold dsh; simp [hb])
                  clear hb HB8
                  go_wp2_with fail
                  go_meet
                  case rel => exact ⟨by rw [HB9.out], rfl⟩
            case rest =>
              obtain ⟨rfl, rfl⟩ := hcut
              obtain ⟨f, rfl⟩ : ∃ f', f = f' + 1 := ⟨f - 1, by have := HP.out.2.2.1; omega⟩
              cases B8 with
              | true =>
                have HX : Hid (rdM s = [] ∧ rdE s = 11) := hid (hbad.out (by
                  rw [HR.out]
                  have h8 := HB8.out
                  cases hd : dsh rest1 with
                  | false =>
                    rw [rd_ref_bad HRE.out (fun x hx => by rw [HN.out.2] at hx; rw [hx] at hd; simp [dsh] at hd)]
                    rfl
                  | true =>
                    obtain ⟨x, hx⟩ := dsh_yes hd
                    rw [rd_ref (x := x) (by rw [HN.out.2]; exact hx), HN.out.1]
                    rw [hd] at h8
                    have hlt : deepL L < D := by simpa using h8.symm
                    cases txt x with
                    | none => rfl
                    | some y => simp only; rw [if_pos hlt]; rfl))
                go_wp2
                go_ret2
                exact ⟨.slice Option.none 0 0, by rw [HX.out.2]; rfl, by rw [HX.out.1]; exact World.ownsRow_nil _ _ _ _, HO.out.2⟩
              | false =>
                have h8 := HB8.out
                have hds : dsh rest1 = true := by
                  cases hd : dsh rest1 with
                  | false => rw [hd] at h8; simp at h8
                  | true => rfl
                rw [hds] at h8
                have hle : D ≤ deepL L := by
                  have : ¬ (deepL L < D) := by simpa using h8.symm
                  omega
                obtain ⟨x, hx⟩ := dsh_yes hds
                have HRX : Hid (rdR s = (match txt x with
                  | none => none
                  | some y => (rdL f (D + 1) y.2).map ((D, y.1) :: ·)).map (L ++ ·)) := hid (by
                  rw [HR.out, rd_ref (x := x) (by rw [HN.out.2]; exact hx), HN.out.1]
                  cases txt x with
                  | none => rfl
                  | some y => simp only; rw [if_neg (by omega)])
                have HQX : Hid (s = (pre1 ++ [45, 32]) ++ x ∧ J + 2 = (pre1 ++ [45, 32]).length) := hid (by
                  obtain ⟨q1, q2, _, _⟩ := HQ.out
                  rw [hx] at q1
                  exact ⟨by rw [q1]; simp, by rw [List.length_append, q2]; rfl⟩)
                have hJx : J + 2 + x.length = s.length := by rw [hx] at hJ; simp at hJ; omega
                have hIJ : I ≤ J := by
                  have h3 := prs_len rest.length rest (Nat.le_refl _)
                  rw [HN.out.1, HN.out.2] at h3
                  omega
                have hnl2 : nL ≤ J := by
                  have h1 := HP.out.2.1
                  have h2 := HQ.out.2.1
                  have h3 := prs_len rest.length rest (Nat.le_refl _)
                  have h4 := HQ.out.2.2
                  rw [HN.out.1, HN.out.2] at h3
                  omega
                clear hds h8 hx hle HB8
                go_wp2_with fail
                obtain ⟨Wp, rfl⟩ : ∃ X, X = wr := ⟨wr, rfl⟩
                go_loopw [5, 7] (fun i t wr => ∃ (acc pre2 rest2 : List UInt8) (K : Nat), i = .int .i64 K ∧ t = .string ⟨acc.toArray⟩ ∧ Hid (s = pre2 ++ rest2 ∧ K = pre2.length ∧ txt x = (txt rest2).map (fun y => (acc ++ y.1, y.2))) ∧ K + rest2.length = s.length ∧ acc.length ≤ K ∧ J + 2 ≤ K ∧ wr = Wp) (fun i _ _ => s.length - (intOf i).toNat)
                case atStart => exact ⟨[], pre1 ++ [45, 32], x, J + 2, by go_num, rfl, hid ⟨HQX.out.1, HQX.out.2, by simp⟩, hJx, by simp, by omega, rfl⟩
                case round =>
                  obtain ⟨acc, pre2, rest2, K, rfl, rfl, HT, hK, hacc, hJK, rfl⟩ := hrel
                  have hal : acc.toArray.size = acc.length := by simp
                  have HAL := hid hal
                  clear hal
                  have ha1 : ¬ (9223372036854775807 < acc.length + 1) := by omega
                  have ha2 : acc.length + 1 ≤ 9223372036854775807 := by omega
                  have hK0 : (0 : Int) ≤ (K : Int) := by omega
                  have HBADS : Hid (txt rest2 = none → rdM s = [] ∧ rdE s = 11) := hid (fun h => hbad.out (by
                    rw [HRX.out, HT.out.2.2, h]
                    rfl))
                  match rest2, HT, hK, HBADS with
                  | [], HT, hK, HBADS =>
                    have hKs : K = s.length := by simpa using hK
                    have hk1 : ¬ ((K : Int) < (s.length : Int)) := by omega
                    have hk2 : ((K : Int) == (s.length : Int)) = true := by simp; omega
                    have hk3 : (K : Int) = (s.length : Int) := by omega
                    have HX := hid (HBADS.out rfl)
                    clear hKs HBADS hK
                    go_wp2
                    go_ret2
                    exact ⟨.slice Option.none 0 0, by rw [HX.out.2]; rfl, by rw [HX.out.1]; exact World.ownsRow_nil _ _ _ _, HO.out.2⟩
                  | b :: r, HT, hK, HBADS =>
                    have hk1 : (K : Int) < (s.length : Int) := by simp at hK; omega
                    have hk2 : ((K : Int) == (s.length : Int)) = false := by simp; omega
                    have hk3 : ¬ ((K : Int) = (s.length : Int)) := by omega
                    have hz0 : K < (⟨s.toArray⟩ : ByteArray).size := by show K < s.toArray.size; simp; omega
                    have hx0 : (⟨s.toArray⟩ : ByteArray)[K]'hz0 = b := at_preI HT.out.2.1 HT.out.1 hz0
                    have hKr : K + 1 + r.length = s.length := by simp at hK; omega
                    clear hK
                    by_cases hb10 : b = 10
                    · have e1 : (((b.toNat : Nat) : Int) == 10) = true := by rw [hb10]; rfl
                      have e2 : (((b.toNat : Nat) : Int) != 10) = false := by rw [hb10]; rfl
                      have e3 : ((b.toNat : Nat) : Int) = 10 := by rw [hb10]; rfl
                      have HST : Hid (rdR s = (rdL f (deepL (L ++ [(D, acc)])) r).map ((L ++ [(D, acc)]) ++ ·)) := hid (by
                        rw [HRX.out, HT.out.2.2, hb10, txt_10, deepL_snoc]
                        simp only [Option.map_some, List.append_nil, Option.map_map]
                        congr 1
                        funext z
                        simp)
                      have HPN : Hid (s = (pre2 ++ [10]) ++ r ∧ K + 1 = (pre2 ++ [10]).length ∧ r.length < f ∧ nL + 1 = (L ++ [(D, acc)]).length) := hid ⟨by rw [HT.out.1, hb10]; simp, by rw [List.length_append, HT.out.2.1]; rfl, by
                        have h1 := HP.out.2.2.1
                        have h2 : I + rest.length = s.length := hI
                        have h3 : J + 2 ≤ K := hJK
                        have h4 := prs_len rest.length rest (Nat.le_refl _)
                        have h5 : J + rest1.length = s.length := hJ
                        rw [HN.out.1, HN.out.2] at h4
                        omega, by rw [List.length_append, HP.out.2.2.2]; rfl⟩
                      have HYN : Hid (∀ y ∈ L ++ [(D, acc)], y.1 ≤ s.length) := hid (fun y hy => by
                        rcases List.mem_append.1 hy with h | h
                        · exact HYB.out y h
                        · rw [List.mem_singleton] at h
                          rw [h]
                          show D ≤ _
                          omega)
                      have HNW := hid (LnS.new wr (toLn (D, acc)))
                      have HOW := hid (lns_below HO.out.1 ((Below.refl wr.heap.size wr).alloc (Nat.le_refl _) (.cells (toLn (D, acc)).cells.toArray 54)))
                      have HBW := hid (HO.out.2.alloc HO.out.2.size (.cells (toLn (D, acc)).cells.toArray 54))
                      have HLT := hid HP.out.2.2.2
                      have HOG : Hid (∀ k, (Value.slice a4 nL c4).ownBlock = some k → w.heap.size ≤ k) := hid (fun k hk => (lns_own HO.out.1 hk).1)
                      clear hb10 HBADS hL4
                      go_wp2_with (at_builtin; refine wpList_append_lns rfl _ _ 43 Tryz.underlying43 rfl w.heap.size (.slice a4 nL c4) nL (L.map toLn) rfl HOW.out (some ⟨wr.heap.size, 0, Option.none⟩) 1 1 [toLn (D, acc)] rfl HNW.out (by omega) (by rw [World.size_alloc]; have := HO.out.2.size; omega) ?_; rintro v5 W5 ho5 hg5; have HO5 := hid ho5; have HB5 := hid (olbel_grown HBW.out hg5 (by rw [World.size_alloc]; have := HO.out.2.size; omega) (fun k hk => HOG.out k hk)); clear ho5 hg5)
                      go_roundw
                      case rel =>
                        exact ⟨pre2 ++ [10], r, L ++ [(D, acc)], f, K + 1, nL + 1, by go_num, HPN, hKr, by omega, HYN, HST, hid ⟨by rw [List.map_append]; exact HO5.out, HB5.out⟩⟩
                      case measure => simp [intOf]; omega
                    · have e1 : (((b.toNat : Nat) : Int) == 10) = false := by simpa using u8_ne (k := 10) (by decide) hb10
                      have e2 : (((b.toNat : Nat) : Int) != 10) = true := by simpa using u8_ne (k := 10) (by decide) hb10
                      have e3 : ((b.toNat : Nat) : Int) ≠ 10 := u8_ne (k := 10) (by decide) hb10
                      by_cases hb92 : b = 92
                      · have f1 : (((b.toNat : Nat) : Int) == 92) = true := by rw [hb92]; rfl
                        have f2 : (((b.toNat : Nat) : Int) != 92) = false := by rw [hb92]; rfl
                        have f3 : ((b.toNat : Nat) : Int) = 92 := by rw [hb92]; rfl
                        match r, HT, hKr, HBADS with
                        | [], HT, hKr, HBADS =>
                          have hk4 : ¬ ((K : Int) + 1 < (s.length : Int)) := by simp at hKr; omega
                          have HX := hid (HBADS.out (by rw [hb92]; exact txt_bad1))
                          clear hb10 hb92 HBADS hKr
                          go_wp2
                          go_ret2
                          exact ⟨.slice Option.none 0 0, by rw [HX.out.2]; rfl, by rw [HX.out.1]; exact World.ownsRow_nil _ _ _ _, HO.out.2⟩
                        | c :: r, HT, hKr, HBADS =>
                          have hk4 : (K : Int) + 1 < (s.length : Int) := by simp at hKr; omega
                          have hz1 : K + 1 < (⟨s.toArray⟩ : ByteArray).size := by show K + 1 < s.toArray.size; simp; omega
                          have hx1 : (⟨s.toArray⟩ : ByteArray)[K + 1]'hz1 = c := at_preI1 HT.out.2.1 HT.out.1 hz1
                          have hKr2 : K + 2 + r.length = s.length := by simp at hKr; omega
                          clear hKr
                          by_cases hc92 : c = 92
                          · have g1 : (((c.toNat : Nat) : Int) == 92) = true := by rw [hc92]; rfl
                            have g3 : ((c.toNat : Nat) : Int) = 92 := by rw [hc92]; rfl
                            have HN2 : Hid (s = (pre2 ++ [92, 92]) ++ r ∧ K + 2 = (pre2 ++ [92, 92]).length ∧ txt x = (txt r).map (fun y => ((acc ++ [92]) ++ y.1, y.2))) := hid ⟨by rw [HT.out.1, hb92, hc92]; simp, by rw [List.length_append, HT.out.2.1]; rfl, by
                              rw [HT.out.2.2, hb92, hc92, txt_92, Option.map_map]
                              congr 1
                              funext z
                              simp⟩
                            clear hb10 hb92 hc92 HBADS
                            go_wp2_with fail
                            go_roundw
                            case rel => exact ⟨acc ++ [92], pre2 ++ [92, 92], r, K + 2, by go_num, congrArg Value.string (olcat acc [92]), HN2, hKr2, by rw [List.length_append]; simp; omega, by omega, trivial⟩
                            case measure => simp [intOf]; omega
                          · have g1 : (((c.toNat : Nat) : Int) == 92) = false := by simpa using u8_ne (k := 92) (by decide) hc92
                            have g3 : ((c.toNat : Nat) : Int) ≠ 92 := u8_ne (k := 92) (by decide) hc92
                            by_cases hc110 : c = 110
                            · have k1 : (((c.toNat : Nat) : Int) == 110) = true := by rw [hc110]; rfl
                              have k3 : ((c.toNat : Nat) : Int) = 110 := by rw [hc110]; rfl
                              have HN2 : Hid (s = (pre2 ++ [92, 110]) ++ r ∧ K + 2 = (pre2 ++ [92, 110]).length ∧ txt x = (txt r).map (fun y => ((acc ++ [10]) ++ y.1, y.2))) := hid ⟨by rw [HT.out.1, hb92, hc110]; simp, by rw [List.length_append, HT.out.2.1]; rfl, by
                                rw [HT.out.2.2, hb92, hc110, txt_110, Option.map_map]
                                congr 1
                                funext z
                                simp⟩
                              clear hb10 hb92 hc92 hc110 HBADS g1 g3
                              go_wp2_with fail
                              go_roundw
                              case rel => exact ⟨acc ++ [10], pre2 ++ [92, 110], r, K + 2, by go_num, congrArg Value.string (olcat acc [10]), HN2, hKr2, by rw [List.length_append]; simp; omega, by omega, trivial⟩
                              case measure => simp [intOf]; omega
                            · have k1 : (((c.toNat : Nat) : Int) == 110) = false := by simpa using u8_ne (k := 110) (by decide) hc110
                              have k3 : ((c.toNat : Nat) : Int) ≠ 110 := u8_ne (k := 110) (by decide) hc110
                              have HX := hid (HBADS.out (by rw [hb92]; exact txt_bad hc92 hc110 r))
                              clear hb10 hb92 hc92 hc110 HBADS
                              go_wp2
                              go_ret2
                              exact ⟨.slice Option.none 0 0, by rw [HX.out.2]; rfl, by rw [HX.out.1]; exact World.ownsRow_nil _ _ _ _, HO.out.2⟩
                      · have f1 : (((b.toNat : Nat) : Int) == 92) = false := by simpa using u8_ne (k := 92) (by decide) hb92
                        have f2 : (((b.toNat : Nat) : Int) != 92) = true := by simpa using u8_ne (k := 92) (by decide) hb92
                        have f3 : ((b.toNat : Nat) : Int) ≠ 92 := u8_ne (k := 92) (by decide) hb92
                        have HN2 : Hid (s = (pre2 ++ [b]) ++ r ∧ K + 1 = (pre2 ++ [b]).length ∧ txt x = (txt r).map (fun y => ((acc ++ [b]) ++ y.1, y.2))) := hid ⟨by rw [HT.out.1]; simp, by rw [List.length_append, HT.out.2.1]; rfl, by
                          rw [HT.out.2.2, txt_else hb10 hb92, Option.map_map]
                          congr 1
                          funext z
                          simp⟩
                        have hext : (⟨s.toArray⟩ : ByteArray).extract K (K + 1) = ⟨#[b]⟩ := sl_one HT.out.2.1 HT.out.1
                        have hk4 : (K : Int) + 1 ≤ (s.length : Int) := by omega
                        have HEX := hid hext
                        clear hb10 hb92 hext HBADS
                        go_wp2_with fail
                        go_roundw
                        case rel => exact ⟨acc ++ [b], pre2 ++ [b], r, K + 1, by go_num, by rw [HEX.out]; exact congrArg Value.string (olcat acc [b]), HN2, hKr, by rw [List.length_append]; simp; omega, by omega, trivial⟩
                        case measure => simp [intOf]; omega
end
end Go.Proofs.YtnmdcdphpcpojaaGreatDoor
