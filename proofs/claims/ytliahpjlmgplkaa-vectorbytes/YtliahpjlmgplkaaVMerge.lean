/- merge, Join and Meet: of each actor of both, what is picked. -/
import Derived.Test.YtliahpjlmgplkaaVSame
namespace Go.Proofs.Ytliahpjlmgplkaa
open Go.RowKit
open Go.Sort (grow)

/-- The least actor of both. -/
def fa : List Dt → List Dt → Int
  | [], [] => 0
  | [], e :: _ => e.1
  | d :: _, [] => d.1
  | d :: _, e :: _ => if d.1 < e.1 then d.1 else e.1

/-- What the first dot has of an actor, and what lies behind it. -/
def hdv : List Dt → Int → Int
  | [], _ => 0
  | d :: _, y => if d.1 = y then d.2 else 0
def tlv : List Dt → Int → List Dt
  | [], _ => []
  | d :: r, y => if d.1 = y then r else d :: r

theorem fa_low {A B : List Dt} (hA : VM A) (hB : VM B) : (∀ e ∈ A, fa A B ≤ e.1) ∧ (∀ e ∈ B, fa A B ≤ e.1) := by
  cases A with
  | nil =>
    refine ⟨fun e he => by simp at he, fun e he => ?_⟩
    cases B with
    | nil => simp at he
    | cons d r =>
      rcases List.mem_cons.1 he with rfl | he
      · exact Int.le_refl _
      · have := hB.ahead e he
        simp only [fa]
        omega
  | cons a r =>
    cases B with
    | nil =>
      refine ⟨fun e he => ?_, fun e he => by simp at he⟩
      rcases List.mem_cons.1 he with rfl | he
      · exact Int.le_refl _
      · have := hA.ahead e he
        simp only [fa]
        omega
    | cons b s =>
      have h1 := hA.ahead
      have h2 := hB.ahead
      refine ⟨fun e he => ?_, fun e he => ?_⟩
      · simp only [fa]
        rcases List.mem_cons.1 he with rfl | he
        · split <;> omega
        · have := h1 e he
          split <;> omega
      · simp only [fa]
        rcases List.mem_cons.1 he with rfl | he
        · split <;> omega
        · have := h2 e he
          split <;> omega

theorem fa_there {A B : List Dt} (h : 0 < A.length + B.length) : (∃ e ∈ A, e.1 = fa A B) ∨ (∃ e ∈ B, e.1 = fa A B) := by
  cases A with
  | nil =>
    cases B with
    | nil => simp at h
    | cons b s => exact .inr ⟨b, by simp, rfl⟩
  | cons a r =>
    cases B with
    | nil => exact .inl ⟨a, by simp, rfl⟩
    | cons b s =>
      by_cases hab : a.1 < b.1
      · exact .inl ⟨a, by simp, by simp [fa, hab]⟩
      · exact .inr ⟨b, by simp, by simp [fa, hab]⟩

structure Hd (L : List Dt) (y : Int) : Prop where
  val : hdv L y = gt L y
  rest : ∀ a, gt (tlv L y) a = if a = y then 0 else gt L a
  vm : VM (tlv L y)
  far : ∀ e ∈ tlv L y, y < e.1 ∧ e ∈ L
  len : (tlv L y).length ≤ L.length
  less : (∃ e ∈ L, e.1 = y) → (tlv L y).length < L.length

theorem hd_spec {L : List Dt} (h : VM L) {y : Int} (hy : ∀ e ∈ L, y ≤ e.1) : Hd L y := by
  cases L with
  | nil => exact ⟨rfl, fun a => by simp [tlv, gt], vm_nil, fun e he => by simp [tlv] at he, by simp [tlv], fun ⟨e, he, _⟩ => by simp at he⟩
  | cons d r =>
    have h1 := h.ahead
    by_cases hd : d.1 = y
    · have e : tlv (d :: r) y = r := by simp [tlv, hd]
      refine ⟨by simp [hdv, gt, hd], fun a => ?_, by rw [e]; exact h.tail, fun q hq => ?_, by rw [e]; simp, fun _ => by rw [e]; simp⟩
      · rw [e]
        by_cases ha : a = y
        · rw [if_pos ha]
          exact gt_none fun q hq => by have := h1 q hq; omega
        · rw [if_neg ha]
          simp only [gt]
          rw [if_neg (by omega)]
      · rw [e] at hq
        exact ⟨by have := h1 q hq; omega, List.mem_cons_of_mem _ hq⟩
    · have e : tlv (d :: r) y = d :: r := by simp [tlv, hd]
      have h0 := hy d (by simp)
      have hall : ∀ q ∈ d :: r, y < q.1 := fun q hq => by
        rcases List.mem_cons.1 hq with rfl | hq
        · omega
        · have := h1 q hq; omega
      have hz : gt (d :: r) y = 0 := gt_none fun q hq => by have := hall q hq; omega
      refine ⟨by rw [hz]; simp [hdv, hd], fun a => ?_, by rw [e]; exact h, fun q hq => ?_, by rw [e]; simp, fun ⟨q, hq, hq1⟩ => by have := hall q hq; omega⟩
      · rw [e]
        by_cases ha : a = y
        · rw [if_pos ha, ha, hz]
        · rw [if_neg ha]
      · rw [e] at hq
        exact ⟨hall q hq, hq⟩

/-- Part of the way through. -/
structure MI (pk : Int → Int → Int) (A B R A1 B1 : List Dt) : Prop where
  r : VM R
  a : VM A1
  b : VM B1
  ra : ∀ d ∈ R, ∀ e ∈ A1, d.1 < e.1
  rb : ∀ d ∈ R, ∀ e ∈ B1, d.1 < e.1
  eq : ∀ y, pk (gt A y) (gt B y) = gt R y + pk (gt A1 y) (gt B1 y)
  len : R.length + A1.length + B1.length ≤ A.length + B.length

theorem MI.start {pk : Int → Int → Int} {A B : List Dt} (hA : VM A) (hB : VM B) : MI pk A B [] A B :=
  ⟨vm_nil, hA, hB, fun d hd => by simp at hd, fun d hd => by simp at hd, fun y => by simp [gt], by simp⟩

theorem gt_snoc {R : List Dt} {y z : Int} (h : ∀ d ∈ R, d.1 < y) (a : Int) : gt (R ++ [(y, z)]) a = if a = y then z else gt R a := by
  induction R with
  | nil =>
    by_cases ha : a = y
    · simp [gt, ha]
    · simp [gt, ha, Ne.symm ha]
  | cons d r ih =>
    have hd := h d (by simp)
    have ih' := ih fun e he => h e (List.mem_cons_of_mem _ he)
    simp only [List.cons_append, gt]
    rw [ih']
    by_cases ha : a = y
    · rw [if_neg (by omega), if_pos ha, if_pos ha]
    · rw [if_neg ha, if_neg ha]

theorem MI.step {pk : Int → Int → Int} (hp : Pick pk) {A B R A1 B1 : List Dt} (h : MI pk A B R A1 B1) (hne : 0 < A1.length + B1.length) :
    (0 < pk (hdv A1 (fa A1 B1)) (hdv B1 (fa A1 B1)) → MI pk A B (R ++ [(fa A1 B1, pk (hdv A1 (fa A1 B1)) (hdv B1 (fa A1 B1)))]) (tlv A1 (fa A1 B1)) (tlv B1 (fa A1 B1))) ∧
    (¬ 0 < pk (hdv A1 (fa A1 B1)) (hdv B1 (fa A1 B1)) → MI pk A B R (tlv A1 (fa A1 B1)) (tlv B1 (fa A1 B1))) ∧
    (tlv A1 (fa A1 B1)).length + (tlv B1 (fa A1 B1)).length < A1.length + B1.length := by
  obtain ⟨hlA, hlB⟩ := fa_low h.a h.b
  have hth := fa_there hne
  have sA := hd_spec h.a hlA
  have sB := hd_spec h.b hlB
  generalize hy : fa A1 B1 = y at *
  clear hy
  have hRy : ∀ d ∈ R, d.1 < y := fun d hd => by
    rcases hth with ⟨e, he, rfl⟩ | ⟨e, he, rfl⟩
    · exact h.ra d hd e he
    · exact h.rb d hd e he
  have hR0 : gt R y = 0 := gt_none fun d hd => by have := hRy d hd; omega
  have hlt : (tlv A1 y).length + (tlv B1 y).length < A1.length + B1.length := by
    have l1 := sA.len
    have l2 := sB.len
    rcases hth with hq | hq
    · have := sA.less hq; omega
    · have := sB.less hq; omega
  have eA := sA.val
  have eB := sB.val
  have hlen := h.len
  rw [eA, eB]
  have hnn : 0 ≤ pk (gt A1 y) (gt B1 y) := by
    have := h.a.gt_bounds y
    have := h.b.gt_bounds y
    rcases hp.one (gt A1 y) (gt B1 y) with e | e <;> omega
  refine ⟨fun hz => ?_, fun hz => ?_, hlt⟩
  · have hmay : mayd (y, pk (gt A1 y) (gt B1 y)) = true := by
      rcases hp.one (gt A1 y) (gt B1 y) with e | e
      · rw [e]; exact (h.a.gt_pos (by omega)).1
      · rw [e]; exact (h.b.gt_pos (by omega)).1
    refine ⟨(vmb_iff _).1 ?_, sA.vm, sB.vm, ?_, ?_, fun a => ?_, ?_⟩
    · rw [vmb_snoc ((vmb_iff R).2 h.r), hmay, Bool.true_and]
      exact List.all_eq_true.2 fun e he => decide_eq_true (hRy e he)
    · intro d hd e he
      rcases List.mem_append.1 hd with hd | hd
      · exact h.ra d hd e (sA.far e he).2
      · simp at hd
        rw [hd]
        exact (sA.far e he).1
    · intro d hd e he
      rcases List.mem_append.1 hd with hd | hd
      · exact h.rb d hd e (sB.far e he).2
      · simp at hd
        rw [hd]
        exact (sB.far e he).1
    · rw [gt_snoc hRy, sA.rest, sB.rest, h.eq a]
      by_cases ha : a = y
      · rw [if_pos ha, if_pos ha, if_pos ha, ha, hR0, hp.zero]
        omega
      · rw [if_neg ha, if_neg ha, if_neg ha]
    · rw [List.length_append, List.length_singleton]
      omega
  · refine ⟨h.r, sA.vm, sB.vm, fun d hd e he => h.ra d hd e (sA.far e he).2, fun d hd e he => h.rb d hd e (sB.far e he).2, fun a => ?_, by omega⟩
    rw [sA.rest, sB.rest, h.eq a]
    by_cases ha : a = y
    · rw [if_pos ha, if_pos ha, ha, hR0, hp.zero]
      omega
    · rw [if_neg ha, if_neg ha]

theorem MI.done {pk : Int → Int → Int} (hp : Pick pk) {A B R : List Dt} (hA : VM A) (hB : VM B) (h : MI pk A B R [] []) : R = vj pk A B :=
  eq_vj hp hA hB h.r fun a => by have := h.eq a; simp [gt, hp.zero] at this; exact this.symm

theorem max_any (x y : Int) (w : World) : Calls Try.prog 46 #[.int .i64 x, .int .i64 y] w fun e w' => e = .returned (.int .i64 (max x y)) ∧ w' = w := by
  go_enter Try.func46, Try.ntmps46
  go_wp2
  all_goals go_ret
  all_goals first | (rw [show max x y = y by omega]; exact ⟨rfl, rfl⟩) | (rw [show max x y = x by omega]; exact ⟨rfl, rfl⟩)

theorem min_any (x y : Int) (w : World) : Calls Try.prog 48 #[.int .i64 x, .int .i64 y] w fun e w' => e = .returned (.int .i64 (min x y)) ∧ w' = w := by
  go_enter Try.func48, Try.ntmps48
  go_wp2
  all_goals go_ret
  all_goals first | (rw [show min x y = y by omega]; exact ⟨rfl, rfl⟩) | (rw [show min x y = x by omega]; exact ⟨rfl, rfl⟩)

set_option maxRecDepth 100000 in
set_option maxHeartbeats 2000000 in
theorem first_any (a : Option Addr) (n c : Nat) (L : List Dt) (a' : Option Addr) (n' c' : Nat) (M : List Dt) (w : World) (hs : PS w a n c L) (hs' : PS w a' n' c' M) (hn : n ≤ 1000000) (hn' : n' ≤ 1000000) (hp : 0 < L.length + M.length) :
    Tells 62 #[.slice a n c, .slice a' n' c'] w (.int .i64 (fa L M)) := by
  have mixed := mixed
  have hl := hs.len
  have hl' := hs'.len
  cases M with
  | nil =>
    obtain rfl : n' = 0 := by simpa using hl'.symm
    cases L with
    | nil => simp at hp
    | cons d r =>
      simp only [List.length_cons] at hl
      obtain ⟨g, o, rfl, hg, hcell⟩ := hs.at (by omega)
      have hc0 := (hcell 0 (by simp)).1
      simp at hc0
      have hpos : (0 : Int) < (n : Int) := by omega
      have F : Hid (fa (d :: r) [] = d.1) := hid rfl
      obtain ⟨d1, d2⟩ := d
      have C0 := fun m os => cell_grown (cell_in hc0) hc0 m os
      clear hcell hs hs' hl hl' hp
      go_enter Try.func62, Try.ntmps62
      go_wp2_with fail
      refine wp_region_quiet_grown mixed (by kernel_rfl) ?_
      repeat (go_big_quiet_step (fail))
      refine wpQuiet_nil ?_
      intro _ hw'
      obtain ⟨⟨nq, osq⟩, hw''⟩ := hw'
      subst hw''
      simp only []
      go_wp2
      go_ret
      exact ⟨by rw [F.out]; rfl, (Far.refl w).more nq osq⟩
  | cons e s =>
    simp only [List.length_cons] at hl'
    obtain ⟨g', o', rfl, hg', hcell'⟩ := hs'.at (by omega)
    have he0 := (hcell' 0 (by simp)).1
    simp at he0
    have hpos' : (0 : Int) < (n' : Int) := by omega
    have hne' : ((n' : Int) == 0) = false := by simp; omega
    obtain ⟨e1, e2⟩ := e
    have E0 := fun m os => cell_grown (cell_in he0) he0 m os
    cases L with
    | nil =>
      obtain rfl : n = 0 := by simpa using hl.symm
      have F : Hid (fa [] ((e1, e2) :: s) = e1) := hid rfl
      clear hcell' hs hs' hl hl' hp
      go_enter Try.func62, Try.ntmps62
      go_wp2_with fail
      refine wp_region_quiet_grown mixed (by kernel_rfl) ?_
      repeat (go_big_quiet_step (fail))
      refine wpQuiet_nil ?_
      intro _ hw'
      obtain ⟨⟨nq, osq⟩, hw''⟩ := hw'
      subst hw''
      simp only []
      go_wp2
      go_ret
      exact ⟨by rw [F.out]; rfl, (Far.refl w).more nq osq⟩
    | cons d r =>
      simp only [List.length_cons] at hl
      obtain ⟨g, o, rfl, hg, hcell⟩ := hs.at (by omega)
      have hc0 := (hcell 0 (by simp)).1
      simp at hc0
      have hpos : (0 : Int) < (n : Int) := by omega
      obtain ⟨d1, d2⟩ := d
      have C0 := fun m os => cell_grown (cell_in hc0) hc0 m os
      have hposd : decide (0 < n) = true := decide_eq_true (by omega)
      have F : Hid (fa ((d1, d2) :: r) ((e1, e2) :: s) = if d1 < e1 then d1 else e1) := hid rfl
      clear hcell hcell' hs hs' hl hl' hp
      by_cases hde : d1 < e1
      all_goals
        go_enter Try.func62, Try.ntmps62
        go_wp2_with fail
        refine wp_region_quiet_grown mixed (by kernel_rfl) ?_
        repeat (go_big_quiet_step (fail))
        refine wpQuiet_nil ?_
        intro _ hw'
        obtain ⟨⟨nq, osq⟩, hw''⟩ := hw'
        subst hw''
        simp only []
        go_wp2
        go_ret
      · exact ⟨by rw [F.out, if_pos hde]; rfl, (Far.refl w).more nq osq⟩
      · exact ⟨by rw [F.out, if_neg (by omega)]; rfl, (Far.refl w).more nq osq⟩

set_option maxRecDepth 100000 in
set_option maxHeartbeats 2000000 in
theorem head_any (w0 : World) (a : Option Addr) (n c : Nat) (L : List Dt) (y : Int) (w : World) (hs : PS w0 a n c L) (hb : RowKit.Below w0.heap.size w0 w) (hn : n ≤ 1000000) :
    Calls Try.prog 63 #[.slice a n c, .int .i64 y] w fun e w' => ∃ a' n' c', e = .returned (.tuple #[.int .i64 (hdv L y), .slice a' n' c']) ∧ PS w0 a' n' c' (tlv L y) ∧ Far w w' := by
  have mixed := mixed
  have hl := hs.len
  cases L with
  | nil =>
    obtain rfl : n = 0 := by simpa using hl.symm
    have HS := hid hs
    clear hs hl
    go_enter Try.func63, Try.ntmps63
    go_wp2_with fail
    go_ret2
    exact ⟨a, 0, c, rfl, HS.out, Far.refl _⟩
  | cons d r =>
    simp only [List.length_cons] at hl
    obtain ⟨g, o, rfl, hg, hcell⟩ := (hs.below hb).at (by omega)
    obtain ⟨hc0, hc1⟩ := hcell 0 (by simp)
    simp at hc0 hc1
    have hne : ¬ ((n : Int) = 0) := by omega
    have hpos : (0 : Int) < (n : Int) := by omega
    have hcap := hs.cap
    have hmax := hs.max
    obtain ⟨d1, d2⟩ := d
    by_cases hd : d1 = y
    · subst hd
      have hv : Hid (hdv ((d1, d2) :: r) d1 = d2) := hid (by simp [hdv])
      have ht : Hid (tlv ((d1, d2) :: r) d1 = r) := hid (by simp [tlv])
      have hps := hid (hs.drop 1 (by omega))
      have C0 : ∀ m, (w.drewN m).cell? ⟨g, o, none⟩ = some (.int .i64 d1) := fun _ => hc0
      have C1 : ∀ m, (w.drewN m).cell? ⟨g, o + 1, none⟩ = some (.int .i64 d2) := fun _ => hc1
      have hn1 : 1 ≤ n := by omega
      have hc1' : 1 ≤ c := by omega
      have hlr := hid hl
      by_cases hone : c = 1
      · subst hone
        obtain rfl : n = 1 := by omega
        obtain rfl : r = [] := List.eq_nil_of_length_eq_zero (by omega)
        clear hs hcell hl hps
        go_enter Try.func63, Try.ntmps63
        go_wp2_with fail
        go_quiet (fail)
        go_wp2
        go_ret2
        rw [hv.out, ht.out]
        exact ⟨_, 0, 0, rfl, PS.no _ _ _ (fun _ => rfl) (Nat.zero_le _), (Far.refl w).drewN _⟩
      · clear hs hcell hl
        go_enter Try.func63, Try.ntmps63
        go_wp2_with fail
        go_quiet (fail)
        go_wp2
        go_ret2
        rw [hv.out, ht.out]
        exact ⟨_, n - 1, c - 1, rfl, hps.out, (Far.refl w).drewN _⟩
    · have hnb : ((n : Int) == 0) = false := by simpa using hne
      have hdb : (d1 != y) = true := by simpa using hd
      have hv : Hid (hdv ((d1, d2) :: r) y = 0) := hid (by simp [hdv, hd])
      have ht : Hid (tlv ((d1, d2) :: r) y = (d1, d2) :: r) := hid (by simp [tlv, hd])
      have HS := hid hs
      clear hs hcell hl
      go_enter Try.func63, Try.ntmps63
      go_wp2_with fail
      go_ret2
      rw [hv.out, ht.out]
      exact ⟨_, n, c, rfl, HS.out, Far.refl _⟩

end Go.Proofs.Ytliahpjlmgplkaa
