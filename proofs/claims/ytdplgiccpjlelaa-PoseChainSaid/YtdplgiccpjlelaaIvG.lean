/- Proved: the functions of package interval that multiply and take roots return the intervals that their namesakes in Iv compute, and turn nothing that was there before. Conditions: as each theorem states. -/
import Derived.Test.YtdplgiccpjlelaaIvF
import Derived.LoopN
import Derived.Deep.QuietTactic
import Derived.BigQuiet
namespace Go.Proofs.Ytdplgiccpjlelaa
open Go.RowKit
theorem min_if (x y : Int) : (if y < x then y else x) = min x y := by
  rw [Int.min_def]
  split <;> split <;> omega
theorem max_if (x y : Int) : (if y > x then y else x) = max x y := by
  rw [Int.max_def]
  split <;> split <;> omega
theorem run_min4 {P : Program} (w : World) (ts : Array TypeId) (t : TypeId) (x y z u : Int) :
    (Builtin.min_ ts t #[.int .i64 x, .int .i64 y, .int .i64 z, .int .i64 u]).run P w = .ok (.int .i64 (min x (min y (min z u)))) w := by
  simp [Builtin.min_, Builtin.min2, min_if, Int.min_assoc]
theorem run_max4 {P : Program} (w : World) (ts : Array TypeId) (t : TypeId) (x y z u : Int) :
    (Builtin.max_ ts t #[.int .i64 x, .int .i64 y, .int .i64 z, .int .i64 u]).run P w = .ok (.int .i64 (max x (max y (max z u)))) w := by
  have e : ∀ x y : Int, (if x < y then y else x) = max x y := max_if
  simp [Builtin.max_, Builtin.max2, e, Int.max_assoc]
theorem rescaled_any (x y : Int) (w : World) (y1 : -9223372036854775808 ≤ y) (y2 : y ≤ 9223372036854775807) :
    Calls Try.prog 94 #[ .int .i64 x, .int .i64 y ] w fun e w' => e = .returned (.agg #[.int .i64 (resI x y).lo, .int .i64 (resI x y).hi]) ∧ Below w.heap.size w w' := by
  have E1 := Lib.hid (show shD x 16 = x / 65536 by rfl)
  have E2 := Lib.hid (show shU y 16 = -(-y / 65536) by rfl)
  go_enter Try.func94, Try.ntmps94
  go_wp2_with (first | (go_at_call 99; refine (ShiftDown_any _ 16 _).mono ?_; rintro e w' ⟨rfl, rfl⟩) | (go_at_call 100; refine (ShiftUp_any _ 16 _ y1 y2).mono ?_; rintro e w' ⟨rfl, rfl⟩) | (go_at_call 71; refine (limited_any _ _ _).mono ?_; rintro e w' ⟨rfl, hb2⟩; first | ((first | replace hb := below_next hb2 hb | replace hb := below_next hb2 (below_drewN hb) | replace hb := below_next hb2 (below_alloc hb _) | replace hb := below_next hb2 (below_drewN (below_alloc hb _)) | replace hb := below_next hb2 (below_alloc (below_drewN hb) _) | replace hb := below_next hb2 (below_alloc (below_alloc hb _) _)); clear hb2 hc hf; obtain ⟨hc, hf⟩ := bcell hb) | (have hb := hb2; clear hb2; obtain ⟨hc, hf⟩ := bcell hb)))
  rw [E1.out, E2.out]
  exact bodyPost_ret (v := .agg #[.int .i64 (limI (x / 65536) (-(-y / 65536))).lo, .int .i64 (limI (x / 65536) (-(-y / 65536))).hi]) (by first | (simp [results, Try.results94, go_sem, hc]; done) | (simp [results, Try.results94, go_sem]; done)) rfl ⟨rfl, by (repeat (first | exact Below.refl _ _ | (refine below_up ?_ hb; clear hb hc hf) | refine Below.setCell ?_ (by (try simp) <;> omega) _ | refine Below.alloc ?_ (by (try simp) <;> omega) _ | refine below_drewN ?_ | refine Below.drew ?_))⟩
theorem Mul_any (a b : Iv) (w : World) :
    Calls Try.prog 82 #[ .agg #[.int .i64 a.lo, .int .i64 a.hi], .agg #[.int .i64 b.lo, .int .i64 b.hi] ] w fun e w' => e = .returned (.agg #[.int .i64 (mulI a b).lo, .int .i64 (mulI a b).hi]) ∧ Below w.heap.size w w' := by
  by_cases h : Valid a ∧ Valid b
  · obtain ⟨h1, h2⟩ := h
    have hv : (validB a && validB b) = true := by rw [validB_true h1, validB_true h2]; rfl
    have E := Lib.hid (show mulI a b = resI (min (a.lo * b.lo) (min (a.lo * b.hi) (min (a.hi * b.lo) (a.hi * b.hi)))) (max (a.lo * b.lo) (max (a.lo * b.hi) (max (a.hi * b.lo) (a.hi * b.hi)))) by unfold mulI; rw [when2_yes h1 h2]; rfl)
    rw [E.out]
    unfold Valid at h1 h2
    obtain ⟨a1, a2, a3⟩ := h1
    obtain ⟨b1, b2, b3⟩ := h2
    have p1 := prod_lo a1 (Int.le_trans a2 a3) b1 (Int.le_trans b2 b3)
    have p2 := prod_hi a1 (Int.le_trans a2 a3) b1 (Int.le_trans b2 b3)
    have p3 := prod_lo a1 (Int.le_trans a2 a3) (Int.le_trans b1 b2) b3
    have p4 := prod_hi a1 (Int.le_trans a2 a3) (Int.le_trans b1 b2) b3
    have p5 := prod_lo (Int.le_trans a1 a2) a3 b1 (Int.le_trans b2 b3)
    have p6 := prod_hi (Int.le_trans a1 a2) a3 b1 (Int.le_trans b2 b3)
    have p7 := prod_lo (Int.le_trans a1 a2) a3 (Int.le_trans b1 b2) b3
    have p8 := prod_hi (Int.le_trans a1 a2) a3 (Int.le_trans b1 b2) b3
    go_enter Try.func82, Try.ntmps82
    go_wp2_with (first | (go_at_call 81; refine (bothValid_any _ _ _).mono ?_; rintro e w' ⟨rfl, hb2⟩; first | ((first | replace hb := below_next hb2 hb | replace hb := below_next hb2 (below_drewN hb) | replace hb := below_next hb2 (below_alloc hb _) | replace hb := below_next hb2 (below_drewN (below_alloc hb _)) | replace hb := below_next hb2 (below_alloc (below_drewN hb) _) | replace hb := below_next hb2 (below_alloc (below_alloc hb _) _)); clear hb2 hc hf; obtain ⟨hc, hf⟩ := bcell hb) | (have hb := hb2; clear hb2; obtain ⟨hc, hf⟩ := bcell hb)))
    go_quiet (fail)
    go_wp2
    refine wp_loop_rounds 5 ?_
    have i0 : ∀ w, (Instr.index 84 (.agg #[.int .i64 (a.lo * b.lo), .int .i64 (a.lo * b.hi), .int .i64 (a.hi * b.lo), .int .i64 (a.hi * b.hi)]) (.int .i64 0)).run Try.prog w = .ok (.int .i64 (a.lo * b.lo)) w := fun _ => by kernel_rfl
    have i1 : ∀ w, (Instr.index 84 (.agg #[.int .i64 (a.lo * b.lo), .int .i64 (a.lo * b.hi), .int .i64 (a.hi * b.lo), .int .i64 (a.hi * b.hi)]) (.int .i64 1)).run Try.prog w = .ok (.int .i64 (a.lo * b.hi)) w := fun _ => by kernel_rfl
    have i2 : ∀ w, (Instr.index 84 (.agg #[.int .i64 (a.lo * b.lo), .int .i64 (a.lo * b.hi), .int .i64 (a.hi * b.lo), .int .i64 (a.hi * b.hi)]) (.int .i64 2)).run Try.prog w = .ok (.int .i64 (a.hi * b.lo)) w := fun _ => by kernel_rfl
    have i3 : ∀ w, (Instr.index 84 (.agg #[.int .i64 (a.lo * b.lo), .int .i64 (a.lo * b.hi), .int .i64 (a.hi * b.lo), .int .i64 (a.hi * b.hi)]) (.int .i64 3)).run Try.prog w = .ok (.int .i64 (a.hi * b.hi)) w := fun _ => by kernel_rfl
    rw [rounds_succ]; go_wp2
    rw [rounds_succ]; go_wp2
    rw [rounds_succ]; go_wp2
    rw [rounds_succ]; go_wp2
    rw [rounds_succ]; go_wp2_with (first | (go_at_call 94; refine (rescaled_any _ _ _ (by omega) (by omega)).mono ?_; rintro e w' ⟨rfl, hb2⟩; first | ((first | replace hb := below_next hb2 hb | replace hb := below_next hb2 (below_drewN hb) | replace hb := below_next hb2 (below_alloc hb _) | replace hb := below_next hb2 (below_drewN (below_alloc hb _)) | replace hb := below_next hb2 (below_alloc (below_drewN hb) _) | replace hb := below_next hb2 (below_alloc (below_alloc hb _) _)); clear hb2 hc hf; obtain ⟨hc, hf⟩ := bcell hb) | (have hb := hb2; clear hb2; obtain ⟨hc, hf⟩ := bcell hb)))
    exact bodyPost_ret (v := .agg #[.int .i64 (resI (min (a.lo * b.lo) (min (a.lo * b.hi) (min (a.hi * b.lo) (a.hi * b.hi)))) (max (a.lo * b.lo) (max (a.lo * b.hi) (max (a.hi * b.lo) (a.hi * b.hi))))).lo, .int .i64 (resI (min (a.lo * b.lo) (min (a.lo * b.hi) (min (a.hi * b.lo) (a.hi * b.hi)))) (max (a.lo * b.lo) (max (a.lo * b.hi) (max (a.hi * b.lo) (a.hi * b.hi))))).hi]) (by first | (simp [results, Try.results82, go_sem, hc]; done) | (simp [results, Try.results82, go_sem]; done)) rfl ⟨rfl, by (repeat (first | exact Below.refl _ _ | (refine below_up ?_ hb; clear hb hc hf) | refine Below.setCell ?_ (by (try simp) <;> omega) _ | refine Below.alloc ?_ (by (try simp) <;> omega) _ | refine below_drewN ?_ | refine Below.drew ?_))⟩
  · have hv : (validB a && validB b) = false := by unfold validB; simpa using h
    rw [show mulI a b = zeroI by unfold mulI; rw [when2_no h]]
    clear h
    go_enter Try.func82, Try.ntmps82
    go_wp2_with (first | (go_at_call 81; refine (bothValid_any _ _ _).mono ?_; rintro e w' ⟨rfl, hb2⟩; first | ((first | replace hb := below_next hb2 hb | replace hb := below_next hb2 (below_drewN hb) | replace hb := below_next hb2 (below_alloc hb _) | replace hb := below_next hb2 (below_drewN (below_alloc hb _)) | replace hb := below_next hb2 (below_alloc (below_drewN hb) _) | replace hb := below_next hb2 (below_alloc (below_alloc hb _) _)); clear hb2 hc hf; obtain ⟨hc, hf⟩ := bcell hb) | (have hb := hb2; clear hb2; obtain ⟨hc, hf⟩ := bcell hb)))
    exact bodyPost_ret (v := .agg #[.int .i64 0, .int .i64 0]) (by first | (simp [results, Try.results82, go_sem, hc]; done) | (simp [results, Try.results82, go_sem]; done)) rfl ⟨rfl, by (repeat (first | exact Below.refl _ _ | (refine below_up ?_ hb; clear hb hc hf) | refine Below.setCell ?_ (by (try simp) <;> omega) _ | refine Below.alloc ?_ (by (try simp) <;> omega) _ | refine below_drewN ?_ | refine Below.drew ?_))⟩
theorem rMul_any (a b : Iv) (w : World) :
    Calls Try.prog 64 #[ .agg #[.int .i64 a.lo, .int .i64 a.hi], .agg #[.int .i64 b.lo, .int .i64 b.hi] ] w fun e w' => e = .returned (.agg #[.int .i64 (mulI a b).lo, .int .i64 (mulI a b).hi]) ∧ Below w.heap.size w w' := by
  by_cases h : Valid a ∧ Valid b
  · obtain ⟨h1, h2⟩ := h
    have v1 := validB_true h1
    have v2 := validB_true h2
    have E := Lib.hid (show mulI a b = resI (min (a.lo * b.lo) (min (a.lo * b.hi) (min (a.hi * b.lo) (a.hi * b.hi)))) (max (a.lo * b.lo) (max (a.lo * b.hi) (max (a.hi * b.lo) (a.hi * b.hi)))) by unfold mulI; rw [when2_yes h1 h2]; rfl)
    rw [E.out]
    unfold Valid at h1 h2
    obtain ⟨a1, a2, a3⟩ := h1
    obtain ⟨b1, b2, b3⟩ := h2
    have p1 := prod_lo a1 (Int.le_trans a2 a3) b1 (Int.le_trans b2 b3)
    have p2 := prod_hi a1 (Int.le_trans a2 a3) b1 (Int.le_trans b2 b3)
    have p3 := prod_lo a1 (Int.le_trans a2 a3) (Int.le_trans b1 b2) b3
    have p4 := prod_hi a1 (Int.le_trans a2 a3) (Int.le_trans b1 b2) b3
    have p5 := prod_lo (Int.le_trans a1 a2) a3 b1 (Int.le_trans b2 b3)
    have p6 := prod_hi (Int.le_trans a1 a2) a3 b1 (Int.le_trans b2 b3)
    have p7 := prod_lo (Int.le_trans a1 a2) a3 (Int.le_trans b1 b2) b3
    have p8 := prod_hi (Int.le_trans a1 a2) a3 (Int.le_trans b1 b2) b3
    have m1 : ∀ w, (Builtin.min_ #[2, 2, 2, 2] 2 #[.int .i64 (a.lo * b.lo), .int .i64 (a.lo * b.hi), .int .i64 (a.hi * b.lo), .int .i64 (a.hi * b.hi)]).run Try.prog w = .ok (.int .i64 (min (a.lo * b.lo) (min (a.lo * b.hi) (min (a.hi * b.lo) (a.hi * b.hi))))) w := fun w => run_min4 w _ _ _ _ _ _
    have m2 : ∀ w, (Builtin.max_ #[2, 2, 2, 2] 2 #[.int .i64 (a.lo * b.lo), .int .i64 (a.lo * b.hi), .int .i64 (a.hi * b.lo), .int .i64 (a.hi * b.hi)]).run Try.prog w = .ok (.int .i64 (max (a.lo * b.lo) (max (a.lo * b.hi) (max (a.hi * b.lo) (a.hi * b.hi))))) w := fun w => run_max4 w _ _ _ _ _ _
    go_enter Try.func64, Try.ntmps64
    go_wp2_with (first | (go_at_call 51; refine (rValid_any _ _).mono ?_; rintro e w' ⟨rfl, hb2⟩; first | ((first | replace hb := below_next hb2 hb | replace hb := below_next hb2 (below_drewN hb) | replace hb := below_next hb2 (below_alloc hb _) | replace hb := below_next hb2 (below_drewN (below_alloc hb _)) | replace hb := below_next hb2 (below_alloc (below_drewN hb) _) | replace hb := below_next hb2 (below_alloc (below_alloc hb _) _)); clear hb2 hc hf; obtain ⟨hc, hf⟩ := bcell hb) | (have hb := hb2; clear hb2; obtain ⟨hc, hf⟩ := bcell hb)))
    go_quiet (fail)
    go_wp2_with (first | (go_at_call 79; refine (Floor_any _ _ _ (by decide) (by omega) (by omega)).mono ?_; rintro e w' ⟨rfl, rfl⟩) | (go_at_call 80; refine (Ceil_any _ _ _ (by decide) (by omega) (by omega)).mono ?_; rintro e w' ⟨rfl, rfl⟩) | (go_at_call 70; refine (rlimited_any _ _ _).mono ?_; rintro e w' ⟨rfl, hb2⟩; first | ((first | replace hb := below_next hb2 hb | replace hb := below_next hb2 (below_drewN hb) | replace hb := below_next hb2 (below_alloc hb _) | replace hb := below_next hb2 (below_drewN (below_alloc hb _)) | replace hb := below_next hb2 (below_alloc (below_drewN hb) _) | replace hb := below_next hb2 (below_alloc (below_alloc hb _) _)); clear hb2 hc hf; obtain ⟨hc, hf⟩ := bcell hb) | (have hb := hb2; clear hb2; obtain ⟨hc, hf⟩ := bcell hb)))
    exact bodyPost_ret (v := .agg #[.int .i64 (limI (min (a.lo * b.lo) (min (a.lo * b.hi) (min (a.hi * b.lo) (a.hi * b.hi))) / 65536) (ce (max (a.lo * b.lo) (max (a.lo * b.hi) (max (a.hi * b.lo) (a.hi * b.hi)))) 65536)).lo, .int .i64 (limI (min (a.lo * b.lo) (min (a.lo * b.hi) (min (a.hi * b.lo) (a.hi * b.hi))) / 65536) (ce (max (a.lo * b.lo) (max (a.lo * b.hi) (max (a.hi * b.lo) (a.hi * b.hi)))) 65536)).hi]) (by first | (simp [results, Try.results64, go_sem, hc]; done) | (simp [results, Try.results64, go_sem]; done)) rfl ⟨rfl, by (repeat (first | exact Below.refl _ _ | (refine below_up ?_ hb; clear hb hc hf) | refine Below.setCell ?_ (by (try simp) <;> omega) _ | refine Below.alloc ?_ (by (try simp) <;> omega) _ | refine below_drewN ?_ | refine Below.drew ?_))⟩
  · rw [show mulI a b = zeroI by unfold mulI; rw [when2_no h]]
    by_cases v1 : Valid a
    · have v2 := validB_false (a := b) fun hb => h ⟨v1, hb⟩
      replace v1 := validB_true v1
      clear h
      go_enter Try.func64, Try.ntmps64
      go_wp2_with (first | (go_at_call 51; refine (rValid_any _ _).mono ?_; rintro e w' ⟨rfl, hb2⟩; first | ((first | replace hb := below_next hb2 hb | replace hb := below_next hb2 (below_drewN hb) | replace hb := below_next hb2 (below_alloc hb _) | replace hb := below_next hb2 (below_drewN (below_alloc hb _)) | replace hb := below_next hb2 (below_alloc (below_drewN hb) _) | replace hb := below_next hb2 (below_alloc (below_alloc hb _) _)); clear hb2 hc hf; obtain ⟨hc, hf⟩ := bcell hb) | (have hb := hb2; clear hb2; obtain ⟨hc, hf⟩ := bcell hb)))
      exact bodyPost_ret (v := .agg #[.int .i64 0, .int .i64 0]) (by first | (simp [results, Try.results64, go_sem, hc]; done) | (simp [results, Try.results64, go_sem]; done)) rfl ⟨rfl, by (repeat (first | exact Below.refl _ _ | (refine below_up ?_ hb; clear hb hc hf) | refine Below.setCell ?_ (by (try simp) <;> omega) _ | refine Below.alloc ?_ (by (try simp) <;> omega) _ | refine below_drewN ?_ | refine Below.drew ?_))⟩
    · replace v1 := validB_false v1
      clear h
      go_enter Try.func64, Try.ntmps64
      go_wp2_with (first | (go_at_call 51; refine (rValid_any _ _).mono ?_; rintro e w' ⟨rfl, hb2⟩; first | ((first | replace hb := below_next hb2 hb | replace hb := below_next hb2 (below_drewN hb) | replace hb := below_next hb2 (below_alloc hb _) | replace hb := below_next hb2 (below_drewN (below_alloc hb _)) | replace hb := below_next hb2 (below_alloc (below_drewN hb) _) | replace hb := below_next hb2 (below_alloc (below_alloc hb _) _)); clear hb2 hc hf; obtain ⟨hc, hf⟩ := bcell hb) | (have hb := hb2; clear hb2; obtain ⟨hc, hf⟩ := bcell hb)))
      exact bodyPost_ret (v := .agg #[.int .i64 0, .int .i64 0]) (by first | (simp [results, Try.results64, go_sem, hc]; done) | (simp [results, Try.results64, go_sem]; done)) rfl ⟨rfl, by (repeat (first | exact Below.refl _ _ | (refine below_up ?_ hb; clear hb hc hf) | refine Below.setCell ?_ (by (try simp) <;> omega) _ | refine Below.alloc ?_ (by (try simp) <;> omega) _ | refine below_drewN ?_ | refine Below.drew ?_))⟩
end Go.Proofs.Ytdplgiccpjlelaa
