/- Proved: more functions of package interval, and of the reference, return the intervals and answers that their namesakes in Iv compute, and turn nothing that was there before. Conditions: as each theorem states. -/
import Derived.Test.YtdplgiccpjlelaaIvG
import Derived.Deep.RegionHeld3
namespace Go.Proofs.Ytdplgiccpjlelaa
open Go.RowKit
theorem quiet_eq {P : Program} {f : FuncId} {args : Array Value} {w : World} {n : Nat} {v : Value}
    (h : Calls P f args (w.drewN n) fun e w' => e = .returned v ∧ w.drewN n = w') : Calls P f args (w.drewN n) fun e w'' => e = .returned v ∧ ∃ m, w'' = w.drewN m :=
  h.mono fun _ _ hh => ⟨hh.1, n, hh.2.symm⟩
theorem hasB_true {a : Iv} {x : Int} (h : Has a x) : hasB a x = true := decide_eq_true h
theorem hasB_false {a : Iv} {x : Int} (h : ¬Has a x) : hasB a x = false := decide_eq_false h
theorem withinB_true {a b : Iv} (h : Within a b) : withinB a b = true := decide_eq_true h
theorem withinB_false {a b : Iv} (h : ¬Within a b) : withinB a b = false := decide_eq_false h
theorem Within_any (a b : Iv) (w : World) :
    Calls Try.prog 69 #[ .agg #[.int .i64 a.lo, .int .i64 a.hi], .agg #[.int .i64 b.lo, .int .i64 b.hi] ] w fun e w' => e = .returned (.bool (withinB a b)) ∧ Below w.heap.size w w' := by
  by_cases h1 : Valid a ∧ Valid b
  · obtain ⟨g1, g2⟩ := h1
    have v1 := validB_true g1
    have v2 := validB_true g2
    by_cases h2 : b.lo ≤ a.lo
    · by_cases h3 : a.hi ≤ b.hi
      · have E := Lib.hid (withinB_true ⟨⟨g1, g2⟩, h2, h3⟩).symm
        go_enter Try.func69, Try.ntmps69
        go_wp2_with (first | (go_at_call 81; refine (bothValid_any _ _ _).mono ?_; rintro e w' ⟨rfl, hb2⟩; first | ((first | replace hb := below_next hb2 hb | replace hb := below_next hb2 (below_drewN hb) | replace hb := below_next hb2 (below_alloc hb _) | replace hb := below_next hb2 (below_drewN (below_alloc hb _)) | replace hb := below_next hb2 (below_alloc (below_drewN hb) _) | replace hb := below_next hb2 (below_alloc (below_alloc hb _) _)); clear hb2 hc hf; obtain ⟨hc, hf⟩ := bcell hb) | (have hb := hb2; clear hb2; obtain ⟨hc, hf⟩ := bcell hb)))
        go_ret
        exact ⟨ret_bool E.out, by (repeat (first | exact Below.refl _ _ | (refine below_up ?_ hb; clear hb hc hf) | refine Below.setCell ?_ (by (try simp) <;> omega) _ | refine Below.alloc ?_ (by (try simp) <;> omega) _ | refine below_drewN ?_ | refine Below.drew ?_))⟩
      · have E := Lib.hid (withinB_false (a := a) (b := b) fun h => h3 h.2.2).symm
        have d3 : decide (a.hi ≤ b.hi) = false := decide_eq_false h3
        go_enter Try.func69, Try.ntmps69
        go_wp2_with (first | (go_at_call 81; refine (bothValid_any _ _ _).mono ?_; rintro e w' ⟨rfl, hb2⟩; first | ((first | replace hb := below_next hb2 hb | replace hb := below_next hb2 (below_drewN hb) | replace hb := below_next hb2 (below_alloc hb _) | replace hb := below_next hb2 (below_drewN (below_alloc hb _)) | replace hb := below_next hb2 (below_alloc (below_drewN hb) _) | replace hb := below_next hb2 (below_alloc (below_alloc hb _) _)); clear hb2 hc hf; obtain ⟨hc, hf⟩ := bcell hb) | (have hb := hb2; clear hb2; obtain ⟨hc, hf⟩ := bcell hb)))
        go_ret
        exact ⟨ret_bool E.out, by (repeat (first | exact Below.refl _ _ | (refine below_up ?_ hb; clear hb hc hf) | refine Below.setCell ?_ (by (try simp) <;> omega) _ | refine Below.alloc ?_ (by (try simp) <;> omega) _ | refine below_drewN ?_ | refine Below.drew ?_))⟩
    · have E := Lib.hid (withinB_false (a := a) (b := b) fun h => h2 h.2.1).symm
      go_enter Try.func69, Try.ntmps69
      go_wp2_with (first | (go_at_call 81; refine (bothValid_any _ _ _).mono ?_; rintro e w' ⟨rfl, hb2⟩; first | ((first | replace hb := below_next hb2 hb | replace hb := below_next hb2 (below_drewN hb) | replace hb := below_next hb2 (below_alloc hb _) | replace hb := below_next hb2 (below_drewN (below_alloc hb _)) | replace hb := below_next hb2 (below_alloc (below_drewN hb) _) | replace hb := below_next hb2 (below_alloc (below_alloc hb _) _)); clear hb2 hc hf; obtain ⟨hc, hf⟩ := bcell hb) | (have hb := hb2; clear hb2; obtain ⟨hc, hf⟩ := bcell hb)))
      go_ret
      exact ⟨ret_bool E.out, by (repeat (first | exact Below.refl _ _ | (refine below_up ?_ hb; clear hb hc hf) | refine Below.setCell ?_ (by (try simp) <;> omega) _ | refine Below.alloc ?_ (by (try simp) <;> omega) _ | refine below_drewN ?_ | refine Below.drew ?_))⟩
  · have E := Lib.hid (withinB_false (a := a) (b := b) fun h => h1 h.1).symm
    by_cases g1 : Valid a
    · have v1 := validB_true g1
      have v2 := validB_false (a := b) fun g2 => h1 ⟨g1, g2⟩
      clear h1
      go_enter Try.func69, Try.ntmps69
      go_wp2_with (first | (go_at_call 81; refine (bothValid_any _ _ _).mono ?_; rintro e w' ⟨rfl, hb2⟩; first | ((first | replace hb := below_next hb2 hb | replace hb := below_next hb2 (below_drewN hb) | replace hb := below_next hb2 (below_alloc hb _) | replace hb := below_next hb2 (below_drewN (below_alloc hb _)) | replace hb := below_next hb2 (below_alloc (below_drewN hb) _) | replace hb := below_next hb2 (below_alloc (below_alloc hb _) _)); clear hb2 hc hf; obtain ⟨hc, hf⟩ := bcell hb) | (have hb := hb2; clear hb2; obtain ⟨hc, hf⟩ := bcell hb)))
      go_ret
      exact ⟨ret_bool E.out, by (repeat (first | exact Below.refl _ _ | (refine below_up ?_ hb; clear hb hc hf) | refine Below.setCell ?_ (by (try simp) <;> omega) _ | refine Below.alloc ?_ (by (try simp) <;> omega) _ | refine below_drewN ?_ | refine Below.drew ?_))⟩
    · have v1 := validB_false g1
      clear h1
      go_enter Try.func69, Try.ntmps69
      go_wp2_with (first | (go_at_call 81; refine (bothValid_any _ _ _).mono ?_; rintro e w' ⟨rfl, hb2⟩; first | ((first | replace hb := below_next hb2 hb | replace hb := below_next hb2 (below_drewN hb) | replace hb := below_next hb2 (below_alloc hb _) | replace hb := below_next hb2 (below_drewN (below_alloc hb _)) | replace hb := below_next hb2 (below_alloc (below_drewN hb) _) | replace hb := below_next hb2 (below_alloc (below_alloc hb _) _)); clear hb2 hc hf; obtain ⟨hc, hf⟩ := bcell hb) | (have hb := hb2; clear hb2; obtain ⟨hc, hf⟩ := bcell hb)))
      go_ret
      exact ⟨ret_bool E.out, by (repeat (first | exact Below.refl _ _ | (refine below_up ?_ hb; clear hb hc hf) | refine Below.setCell ?_ (by (try simp) <;> omega) _ | refine Below.alloc ?_ (by (try simp) <;> omega) _ | refine below_drewN ?_ | refine Below.drew ?_))⟩
theorem rWithin_any (a b : Iv) (w : World) :
    Calls Try.prog 50 #[ .agg #[.int .i64 a.lo, .int .i64 a.hi], .agg #[.int .i64 b.lo, .int .i64 b.hi] ] w fun e w' => e = .returned (.bool (withinB a b)) ∧ Below w.heap.size w w' := by
  by_cases h1 : Valid a ∧ Valid b
  · obtain ⟨g1, g2⟩ := h1
    have v1 := validB_true g1
    have v2 := validB_true g2
    by_cases h2 : b.lo ≤ a.lo
    · by_cases h3 : a.hi ≤ b.hi
      · have E := Lib.hid (withinB_true ⟨⟨g1, g2⟩, h2, h3⟩).symm
        go_enter Try.func50, Try.ntmps50
        go_wp2_with (first | (go_at_call 51; refine (rValid_any _ _).mono ?_; rintro e w' ⟨rfl, hb2⟩; first | ((first | replace hb := below_next hb2 hb | replace hb := below_next hb2 (below_drewN hb) | replace hb := below_next hb2 (below_alloc hb _) | replace hb := below_next hb2 (below_drewN (below_alloc hb _)) | replace hb := below_next hb2 (below_alloc (below_drewN hb) _) | replace hb := below_next hb2 (below_alloc (below_alloc hb _) _)); clear hb2 hc hf; obtain ⟨hc, hf⟩ := bcell hb) | (have hb := hb2; clear hb2; obtain ⟨hc, hf⟩ := bcell hb)))
        go_ret
        exact ⟨ret_bool E.out, by (repeat (first | exact Below.refl _ _ | (refine below_up ?_ hb; clear hb hc hf) | refine Below.setCell ?_ (by (try simp) <;> omega) _ | refine Below.alloc ?_ (by (try simp) <;> omega) _ | refine below_drewN ?_ | refine Below.drew ?_))⟩
      · have E := Lib.hid (withinB_false (a := a) (b := b) fun h => h3 h.2.2).symm
        have d3 : decide (a.hi ≤ b.hi) = false := decide_eq_false h3
        go_enter Try.func50, Try.ntmps50
        go_wp2_with (first | (go_at_call 51; refine (rValid_any _ _).mono ?_; rintro e w' ⟨rfl, hb2⟩; first | ((first | replace hb := below_next hb2 hb | replace hb := below_next hb2 (below_drewN hb) | replace hb := below_next hb2 (below_alloc hb _) | replace hb := below_next hb2 (below_drewN (below_alloc hb _)) | replace hb := below_next hb2 (below_alloc (below_drewN hb) _) | replace hb := below_next hb2 (below_alloc (below_alloc hb _) _)); clear hb2 hc hf; obtain ⟨hc, hf⟩ := bcell hb) | (have hb := hb2; clear hb2; obtain ⟨hc, hf⟩ := bcell hb)))
        go_ret
        exact ⟨ret_bool E.out, by (repeat (first | exact Below.refl _ _ | (refine below_up ?_ hb; clear hb hc hf) | refine Below.setCell ?_ (by (try simp) <;> omega) _ | refine Below.alloc ?_ (by (try simp) <;> omega) _ | refine below_drewN ?_ | refine Below.drew ?_))⟩
    · have E := Lib.hid (withinB_false (a := a) (b := b) fun h => h2 h.2.1).symm
      go_enter Try.func50, Try.ntmps50
      go_wp2_with (first | (go_at_call 51; refine (rValid_any _ _).mono ?_; rintro e w' ⟨rfl, hb2⟩; first | ((first | replace hb := below_next hb2 hb | replace hb := below_next hb2 (below_drewN hb) | replace hb := below_next hb2 (below_alloc hb _) | replace hb := below_next hb2 (below_drewN (below_alloc hb _)) | replace hb := below_next hb2 (below_alloc (below_drewN hb) _) | replace hb := below_next hb2 (below_alloc (below_alloc hb _) _)); clear hb2 hc hf; obtain ⟨hc, hf⟩ := bcell hb) | (have hb := hb2; clear hb2; obtain ⟨hc, hf⟩ := bcell hb)))
      go_ret
      exact ⟨ret_bool E.out, by (repeat (first | exact Below.refl _ _ | (refine below_up ?_ hb; clear hb hc hf) | refine Below.setCell ?_ (by (try simp) <;> omega) _ | refine Below.alloc ?_ (by (try simp) <;> omega) _ | refine below_drewN ?_ | refine Below.drew ?_))⟩
  · have E := Lib.hid (withinB_false (a := a) (b := b) fun h => h1 h.1).symm
    by_cases g1 : Valid a
    · have v1 := validB_true g1
      have v2 := validB_false (a := b) fun g2 => h1 ⟨g1, g2⟩
      clear h1
      go_enter Try.func50, Try.ntmps50
      go_wp2_with (first | (go_at_call 51; refine (rValid_any _ _).mono ?_; rintro e w' ⟨rfl, hb2⟩; first | ((first | replace hb := below_next hb2 hb | replace hb := below_next hb2 (below_drewN hb) | replace hb := below_next hb2 (below_alloc hb _) | replace hb := below_next hb2 (below_drewN (below_alloc hb _)) | replace hb := below_next hb2 (below_alloc (below_drewN hb) _) | replace hb := below_next hb2 (below_alloc (below_alloc hb _) _)); clear hb2 hc hf; obtain ⟨hc, hf⟩ := bcell hb) | (have hb := hb2; clear hb2; obtain ⟨hc, hf⟩ := bcell hb)))
      go_ret
      exact ⟨ret_bool E.out, by (repeat (first | exact Below.refl _ _ | (refine below_up ?_ hb; clear hb hc hf) | refine Below.setCell ?_ (by (try simp) <;> omega) _ | refine Below.alloc ?_ (by (try simp) <;> omega) _ | refine below_drewN ?_ | refine Below.drew ?_))⟩
    · have v1 := validB_false g1
      clear h1
      go_enter Try.func50, Try.ntmps50
      go_wp2_with (first | (go_at_call 51; refine (rValid_any _ _).mono ?_; rintro e w' ⟨rfl, hb2⟩; first | ((first | replace hb := below_next hb2 hb | replace hb := below_next hb2 (below_drewN hb) | replace hb := below_next hb2 (below_alloc hb _) | replace hb := below_next hb2 (below_drewN (below_alloc hb _)) | replace hb := below_next hb2 (below_alloc (below_drewN hb) _) | replace hb := below_next hb2 (below_alloc (below_alloc hb _) _)); clear hb2 hc hf; obtain ⟨hc, hf⟩ := bcell hb) | (have hb := hb2; clear hb2; obtain ⟨hc, hf⟩ := bcell hb)))
      go_ret
      exact ⟨ret_bool E.out, by (repeat (first | exact Below.refl _ _ | (refine below_up ?_ hb; clear hb hc hf) | refine Below.setCell ?_ (by (try simp) <;> omega) _ | refine Below.alloc ?_ (by (try simp) <;> omega) _ | refine below_drewN ?_ | refine Below.drew ?_))⟩
theorem Width_any (a : Iv) (w : World) :
    Calls Try.prog 84 #[ .agg #[.int .i64 a.lo, .int .i64 a.hi] ] w fun e w' => e = .returned (.int .i64 (widI a)) ∧ Below w.heap.size w w' := by
  by_cases h1 : Valid a
  · have v1 := validB_true h1
    have E := Lib.hid (show a.hi - a.lo = widI a by unfold widI; rw [if_pos h1])
    unfold Valid at h1
    go_enter Try.func84, Try.ntmps84
    go_wp2_with (first | (go_at_call 55; refine (Valid_any _ _).mono ?_; rintro e w' ⟨rfl, hb2⟩; first | ((first | replace hb := below_next hb2 hb | replace hb := below_next hb2 (below_drewN hb) | replace hb := below_next hb2 (below_alloc hb _) | replace hb := below_next hb2 (below_drewN (below_alloc hb _)) | replace hb := below_next hb2 (below_alloc (below_drewN hb) _) | replace hb := below_next hb2 (below_alloc (below_alloc hb _) _)); clear hb2 hc hf; obtain ⟨hc, hf⟩ := bcell hb) | (have hb := hb2; clear hb2; obtain ⟨hc, hf⟩ := bcell hb)))
    go_ret
    exact ⟨ret_int E.out, by (repeat (first | exact Below.refl _ _ | (refine below_up ?_ hb; clear hb hc hf) | refine Below.setCell ?_ (by (try simp) <;> omega) _ | refine Below.alloc ?_ (by (try simp) <;> omega) _ | refine below_drewN ?_ | refine Below.drew ?_))⟩
  · have E := Lib.hid (show 0 = widI a by unfold widI; rw [if_neg h1])
    have v1 := validB_false h1
    go_enter Try.func84, Try.ntmps84
    go_wp2_with (first | (go_at_call 55; refine (Valid_any _ _).mono ?_; rintro e w' ⟨rfl, hb2⟩; first | ((first | replace hb := below_next hb2 hb | replace hb := below_next hb2 (below_drewN hb) | replace hb := below_next hb2 (below_alloc hb _) | replace hb := below_next hb2 (below_drewN (below_alloc hb _)) | replace hb := below_next hb2 (below_alloc (below_drewN hb) _) | replace hb := below_next hb2 (below_alloc (below_alloc hb _) _)); clear hb2 hc hf; obtain ⟨hc, hf⟩ := bcell hb) | (have hb := hb2; clear hb2; obtain ⟨hc, hf⟩ := bcell hb)))
    go_ret
    exact ⟨ret_int E.out, by (repeat (first | exact Below.refl _ _ | (refine below_up ?_ hb; clear hb hc hf) | refine Below.setCell ?_ (by (try simp) <;> omega) _ | refine Below.alloc ?_ (by (try simp) <;> omega) _ | refine below_drewN ?_ | refine Below.drew ?_))⟩
end Go.Proofs.Ytdplgiccpjlelaa
