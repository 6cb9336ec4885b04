/- Proved: the functions of package interval return the intervals that their namesakes in Iv compute, and turn nothing that was there before. Conditions: as each theorem states. -/
import Derived.Test.YtdplgiccpjlelaaFix
import Derived.Test.YtdplgiccpjlelaaIv
import Derived.Test.YtdplgiccpjlelaaRoo
import Derived.Test.YtdplgiccpjlelaaRef
import Derived.Outline
namespace Go.Proofs.Ytdplgiccpjlelaa
open Go.RowKit

theorem bcell {W w1 : World} (hb : Below W.heap.size W w1) : (∀ b o, b < W.heap.size → w1.cell? ⟨b, o, none⟩ = W.cell? ⟨b, o, none⟩) ∧ (∀ b o, b < W.heap.size → w1.frozen? ⟨b, o, none⟩ = W.frozen? ⟨b, o, none⟩) :=
  ⟨fun b o h => hb.cell (p := ⟨b, o, none⟩) h, fun b o h => hb.frozen (p := ⟨b, o, none⟩) h⟩
theorem below_up {w W w' : World} (h : Below w.heap.size w W) (hb : Below W.heap.size W w') : Below w.heap.size w w' := h.trans (hb.mono h.size)
theorem below_next {W w1 w2 : World} (hb2 : Below w1.heap.size w1 w2) (h : Below W.heap.size W w1) : Below W.heap.size W w2 := h.trans (hb2.mono h.size)
theorem below_alloc {W w : World} (h : Below W.heap.size W w) (o : Obj) : Below W.heap.size W (w.alloc o) := h.alloc h.size o
theorem below_drewN {B : Nat} {a w : World} {n : Nat} (h : Below B a w) : Below B a (w.drewN n) := ⟨h.os, h.tape, h.output, h.size, h.block⟩
theorem ret_bool {a b : Bool} (h : a = b) : Ending.returned (.bool a) = .returned (.bool b) := by rw [h]

theorem Valid_any (a : Iv) (w : World) :
    Calls Try.prog 55 #[ .agg #[.int .i64 a.lo, .int .i64 a.hi] ] w fun e w' => e = .returned (.bool (validB a)) ∧ Below w.heap.size w w' := by
  by_cases h1 : -2147483648 ≤ a.lo
  · by_cases h2 : a.lo ≤ a.hi
    · by_cases h3 : a.hi ≤ 2147483648
      · have E := Lib.hid (validB_true ⟨h1, h2, h3⟩).symm
        go_enter Try.func55, Try.ntmps55
        go_wp2
        go_ret
        exact ⟨ret_bool E.out, (Below.refl _ _).alloc (Nat.le_refl _) _⟩
      · have E := Lib.hid (validB_false (a := a) fun h => h3 h.2.2).symm
        go_enter Try.func55, Try.ntmps55
        go_wp2
        go_ret
        exact ⟨ret_bool E.out, (Below.refl _ _).alloc (Nat.le_refl _) _⟩
    · have E := Lib.hid (validB_false (a := a) fun h => h2 h.2.1).symm
      go_enter Try.func55, Try.ntmps55
      go_wp2
      go_ret
      exact ⟨ret_bool E.out, (Below.refl _ _).alloc (Nat.le_refl _) _⟩
  · have E := Lib.hid (validB_false (a := a) fun h => h1 h.1).symm
    go_enter Try.func55, Try.ntmps55
    go_wp2
    go_ret
    exact ⟨ret_bool E.out, (Below.refl _ _).alloc (Nat.le_refl _) _⟩
theorem bothValid_any (a b : Iv) (w : World) :
    Calls Try.prog 81 #[ .agg #[.int .i64 a.lo, .int .i64 a.hi], .agg #[.int .i64 b.lo, .int .i64 b.hi] ] w fun e w' => e = .returned (.bool (validB a && validB b)) ∧ Below w.heap.size w w' := by
  by_cases h1 : validB a = true
  · go_enter Try.func81, Try.ntmps81
    go_wp2_with (first | (go_at_call 55; refine (Valid_any _ _).mono ?_; rintro e w' ⟨rfl, hb2⟩; first | ((first | replace hb := below_next hb2 hb | replace hb := below_next hb2 (below_drewN hb) | replace hb := below_next hb2 (below_alloc hb _) | replace hb := below_next hb2 (below_drewN (below_alloc hb _)) | replace hb := below_next hb2 (below_alloc (below_drewN hb) _) | replace hb := below_next hb2 (below_alloc (below_alloc hb _) _)); clear hb2 hc hf; obtain ⟨hc, hf⟩ := bcell hb) | (have hb := hb2; clear hb2; obtain ⟨hc, hf⟩ := bcell hb)))
    go_ret
    exact ⟨ret_bool (by rw [h1, Bool.true_and]), (((Below.refl _ _).alloc (Nat.le_refl _) _).alloc (by simp) _).trans (hb.mono (by simp; omega))⟩
  · replace h1 : validB a = false := by simpa using h1
    go_enter Try.func81, Try.ntmps81
    go_wp2_with (first | (go_at_call 55; refine (Valid_any _ _).mono ?_; rintro e w' ⟨rfl, hb2⟩; first | ((first | replace hb := below_next hb2 hb | replace hb := below_next hb2 (below_drewN hb) | replace hb := below_next hb2 (below_alloc hb _) | replace hb := below_next hb2 (below_drewN (below_alloc hb _)) | replace hb := below_next hb2 (below_alloc (below_drewN hb) _) | replace hb := below_next hb2 (below_alloc (below_alloc hb _) _)); clear hb2 hc hf; obtain ⟨hc, hf⟩ := bcell hb) | (have hb := hb2; clear hb2; obtain ⟨hc, hf⟩ := bcell hb)))
    go_ret
    exact ⟨ret_bool (by rw [h1, Bool.false_and]), (((Below.refl _ _).alloc (Nat.le_refl _) _).alloc (by simp) _).trans (hb.mono (by simp; omega))⟩
theorem limited_any (x y : Int) (w : World) :
    Calls Try.prog 71 #[ .int .i64 x, .int .i64 y ] w fun e w' => e = .returned (.agg #[.int .i64 (limI x y).lo, .int .i64 (limI x y).hi]) ∧ Below w.heap.size w w' := by
  go_enter Try.func71, Try.ntmps71
  go_wp2_with (first | (go_at_call 83; refine (clamp_any _ _).mono ?_; rintro e w' ⟨rfl, rfl⟩))
  exact bodyPost_ret (v := .agg #[.int .i64 (clampI x), .int .i64 (clampI y)]) (by first | (simp [results, Try.results71, go_sem, hc]; done) | (simp [results, Try.results71, go_sem]; done)) rfl ⟨rfl, by (repeat (first | exact Below.refl _ _ | (refine below_up ?_ hb; clear hb hc hf) | refine Below.setCell ?_ (by (try simp) <;> omega) _ | refine Below.alloc ?_ (by (try simp) <;> omega) _ | refine below_drewN ?_ | refine Below.drew ?_))⟩
theorem Of_any (x : Int) (w : World) :
    Calls Try.prog 54 #[ .int .i64 x ] w fun e w' => e = .returned (.agg #[.int .i64 (ofI x).lo, .int .i64 (ofI x).hi]) ∧ Below w.heap.size w w' := by
  go_enter Try.func54, Try.ntmps54
  go_wp2_with (first | (go_at_call 71; refine (limited_any _ _ _).mono ?_; rintro e w' ⟨rfl, hb2⟩; first | ((first | replace hb := below_next hb2 hb | replace hb := below_next hb2 (below_drewN hb) | replace hb := below_next hb2 (below_alloc hb _) | replace hb := below_next hb2 (below_drewN (below_alloc hb _)) | replace hb := below_next hb2 (below_alloc (below_drewN hb) _) | replace hb := below_next hb2 (below_alloc (below_alloc hb _) _)); clear hb2 hc hf; obtain ⟨hc, hf⟩ := bcell hb) | (have hb := hb2; clear hb2; obtain ⟨hc, hf⟩ := bcell hb)))
  exact bodyPost_ret (v := .agg #[.int .i64 (limI x x).lo, .int .i64 (limI x x).hi]) (by first | (simp [results, Try.results54, go_sem, hc]; done) | (simp [results, Try.results54, go_sem]; done)) rfl ⟨rfl, by (repeat (first | exact Below.refl _ _ | (refine below_up ?_ hb; clear hb hc hf) | refine Below.setCell ?_ (by (try simp) <;> omega) _ | refine Below.alloc ?_ (by (try simp) <;> omega) _ | refine below_drewN ?_ | refine Below.drew ?_))⟩
theorem rValid_any (a : Iv) (w : World) :
    Calls Try.prog 51 #[ .agg #[.int .i64 a.lo, .int .i64 a.hi] ] w fun e w' => e = .returned (.bool (validB a)) ∧ Below w.heap.size w w' := by
  by_cases h1 : -2147483648 ≤ a.lo
  · by_cases h2 : a.lo ≤ a.hi
    · by_cases h3 : a.hi ≤ 2147483648
      · have E := Lib.hid (validB_true ⟨h1, h2, h3⟩).symm
        go_enter Try.func51, Try.ntmps51
        go_wp2
        go_ret
        exact ⟨ret_bool E.out, (Below.refl _ _).alloc (Nat.le_refl _) _⟩
      · have E := Lib.hid (validB_false (a := a) fun h => h3 h.2.2).symm
        go_enter Try.func51, Try.ntmps51
        go_wp2
        go_ret
        exact ⟨ret_bool E.out, (Below.refl _ _).alloc (Nat.le_refl _) _⟩
    · have E := Lib.hid (validB_false (a := a) fun h => h2 h.2.1).symm
      go_enter Try.func51, Try.ntmps51
      go_wp2
      go_ret
      exact ⟨ret_bool E.out, (Below.refl _ _).alloc (Nat.le_refl _) _⟩
  · have E := Lib.hid (validB_false (a := a) fun h => h1 h.1).symm
    go_enter Try.func51, Try.ntmps51
    go_wp2
    go_ret
    exact ⟨ret_bool E.out, (Below.refl _ _).alloc (Nat.le_refl _) _⟩
theorem rlimited_any (x y : Int) (w : World) :
    Calls Try.prog 70 #[ .int .i64 x, .int .i64 y ] w fun e w' => e = .returned (.agg #[.int .i64 (limI x y).lo, .int .i64 (limI x y).hi]) ∧ Below w.heap.size w w' := by
  go_enter Try.func70, Try.ntmps70
  go_wp2_with (first | (go_at_call 53; refine (refClamp_any _ _).mono ?_; rintro e w' ⟨rfl, rfl⟩))
  exact bodyPost_ret (v := .agg #[.int .i64 (clampI x), .int .i64 (clampI y)]) (by first | (simp [results, Try.results70, go_sem, hc]; done) | (simp [results, Try.results70, go_sem]; done)) rfl ⟨rfl, by (repeat (first | exact Below.refl _ _ | (refine below_up ?_ hb; clear hb hc hf) | refine Below.setCell ?_ (by (try simp) <;> omega) _ | refine Below.alloc ?_ (by (try simp) <;> omega) _ | refine below_drewN ?_ | refine Below.drew ?_))⟩
theorem rOf_any (x : Int) (w : World) :
    Calls Try.prog 33 #[ .int .i64 x ] w fun e w' => e = .returned (.agg #[.int .i64 (ofI x).lo, .int .i64 (ofI x).hi]) ∧ Below w.heap.size w w' := by
  go_enter Try.func33, Try.ntmps33
  go_wp2_with (first | (go_at_call 53; refine (refClamp_any _ _).mono ?_; rintro e w' ⟨rfl, rfl⟩))
  exact bodyPost_ret (v := .agg #[.int .i64 (clampI x), .int .i64 (clampI x)]) (by first | (simp [results, Try.results33, go_sem, hc]; done) | (simp [results, Try.results33, go_sem]; done)) rfl ⟨rfl, by (repeat (first | exact Below.refl _ _ | (refine below_up ?_ hb; clear hb hc hf) | refine Below.setCell ?_ (by (try simp) <;> omega) _ | refine Below.alloc ?_ (by (try simp) <;> omega) _ | refine below_drewN ?_ | refine Below.drew ?_))⟩
theorem Add_any (a b : Iv) (w : World) :
    Calls Try.prog 67 #[ .agg #[.int .i64 a.lo, .int .i64 a.hi], .agg #[.int .i64 b.lo, .int .i64 b.hi] ] w fun e w' => e = .returned (.agg #[.int .i64 (addI a b).lo, .int .i64 (addI a b).hi]) ∧ Below w.heap.size w w' := by
  by_cases h : Valid a ∧ Valid b
  · obtain ⟨h1, h2⟩ := h
    have hv : (validB a && validB b) = true := by rw [validB_true h1, validB_true h2]; rfl
    have E := Lib.hid (show addI a b = limI (a.lo + b.lo) (a.hi + b.hi) by unfold addI; rw [when2_yes h1 h2])
    rw [E.out]
    unfold Valid at h1 h2
    go_enter Try.func67, Try.ntmps67
    go_wp2_with (first | (go_at_call 81; refine (bothValid_any _ _ _).mono ?_; rintro e w' ⟨rfl, hb2⟩; first | ((first | replace hb := below_next hb2 hb | replace hb := below_next hb2 (below_drewN hb) | replace hb := below_next hb2 (below_alloc hb _) | replace hb := below_next hb2 (below_drewN (below_alloc hb _)) | replace hb := below_next hb2 (below_alloc (below_drewN hb) _) | replace hb := below_next hb2 (below_alloc (below_alloc hb _) _)); clear hb2 hc hf; obtain ⟨hc, hf⟩ := bcell hb) | (have hb := hb2; clear hb2; obtain ⟨hc, hf⟩ := bcell hb)) | (go_at_call 71; refine (limited_any _ _ _).mono ?_; rintro e w' ⟨rfl, hb2⟩; first | ((first | replace hb := below_next hb2 hb | replace hb := below_next hb2 (below_drewN hb) | replace hb := below_next hb2 (below_alloc hb _) | replace hb := below_next hb2 (below_drewN (below_alloc hb _)) | replace hb := below_next hb2 (below_alloc (below_drewN hb) _) | replace hb := below_next hb2 (below_alloc (below_alloc hb _) _)); clear hb2 hc hf; obtain ⟨hc, hf⟩ := bcell hb) | (have hb := hb2; clear hb2; obtain ⟨hc, hf⟩ := bcell hb)))
    exact bodyPost_ret (v := .agg #[.int .i64 (limI (a.lo + b.lo) (a.hi + b.hi)).lo, .int .i64 (limI (a.lo + b.lo) (a.hi + b.hi)).hi]) (by first | (simp [results, Try.results67, go_sem, hc]; done) | (simp [results, Try.results67, go_sem]; done)) rfl ⟨rfl, by (repeat (first | exact Below.refl _ _ | (refine below_up ?_ hb; clear hb hc hf) | refine Below.setCell ?_ (by (try simp) <;> omega) _ | refine Below.alloc ?_ (by (try simp) <;> omega) _ | refine below_drewN ?_ | refine Below.drew ?_))⟩
  · have hv : (validB a && validB b) = false := by unfold validB; simpa using h
    rw [show addI a b = zeroI by unfold addI; rw [when2_no h]]
    clear h
    go_enter Try.func67, Try.ntmps67
    go_wp2_with (first | (go_at_call 81; refine (bothValid_any _ _ _).mono ?_; rintro e w' ⟨rfl, hb2⟩; first | ((first | replace hb := below_next hb2 hb | replace hb := below_next hb2 (below_drewN hb) | replace hb := below_next hb2 (below_alloc hb _) | replace hb := below_next hb2 (below_drewN (below_alloc hb _)) | replace hb := below_next hb2 (below_alloc (below_drewN hb) _) | replace hb := below_next hb2 (below_alloc (below_alloc hb _) _)); clear hb2 hc hf; obtain ⟨hc, hf⟩ := bcell hb) | (have hb := hb2; clear hb2; obtain ⟨hc, hf⟩ := bcell hb)))
    exact bodyPost_ret (v := .agg #[.int .i64 0, .int .i64 0]) (by first | (simp [results, Try.results67, go_sem, hc]; done) | (simp [results, Try.results67, go_sem]; done)) rfl ⟨rfl, by (repeat (first | exact Below.refl _ _ | (refine below_up ?_ hb; clear hb hc hf) | refine Below.setCell ?_ (by (try simp) <;> omega) _ | refine Below.alloc ?_ (by (try simp) <;> omega) _ | refine below_drewN ?_ | refine Below.drew ?_))⟩
theorem rAdd_any (a b : Iv) (w : World) :
    Calls Try.prog 52 #[ .agg #[.int .i64 a.lo, .int .i64 a.hi], .agg #[.int .i64 b.lo, .int .i64 b.hi] ] w fun e w' => e = .returned (.agg #[.int .i64 (addI a b).lo, .int .i64 (addI a b).hi]) ∧ Below w.heap.size w w' := by
  by_cases h : Valid a ∧ Valid b
  · obtain ⟨h1, h2⟩ := h
    have v1 := validB_true h1
    have v2 := validB_true h2
    have E := Lib.hid (show addI a b = limI (a.lo + b.lo) (a.hi + b.hi) by unfold addI; rw [when2_yes h1 h2])
    rw [E.out]
    unfold Valid at h1 h2
    go_enter Try.func52, Try.ntmps52
    go_wp2_with (first | (go_at_call 51; refine (rValid_any _ _).mono ?_; rintro e w' ⟨rfl, hb2⟩; first | ((first | replace hb := below_next hb2 hb | replace hb := below_next hb2 (below_drewN hb) | replace hb := below_next hb2 (below_alloc hb _) | replace hb := below_next hb2 (below_drewN (below_alloc hb _)) | replace hb := below_next hb2 (below_alloc (below_drewN hb) _) | replace hb := below_next hb2 (below_alloc (below_alloc hb _) _)); clear hb2 hc hf; obtain ⟨hc, hf⟩ := bcell hb) | (have hb := hb2; clear hb2; obtain ⟨hc, hf⟩ := bcell hb)) | (go_at_call 70; refine (rlimited_any _ _ _).mono ?_; rintro e w' ⟨rfl, hb2⟩; first | ((first | replace hb := below_next hb2 hb | replace hb := below_next hb2 (below_drewN hb) | replace hb := below_next hb2 (below_alloc hb _) | replace hb := below_next hb2 (below_drewN (below_alloc hb _)) | replace hb := below_next hb2 (below_alloc (below_drewN hb) _) | replace hb := below_next hb2 (below_alloc (below_alloc hb _) _)); clear hb2 hc hf; obtain ⟨hc, hf⟩ := bcell hb) | (have hb := hb2; clear hb2; obtain ⟨hc, hf⟩ := bcell hb)))
    exact bodyPost_ret (v := .agg #[.int .i64 (limI (a.lo + b.lo) (a.hi + b.hi)).lo, .int .i64 (limI (a.lo + b.lo) (a.hi + b.hi)).hi]) (by first | (simp [results, Try.results52, go_sem, hc]; done) | (simp [results, Try.results52, go_sem]; done)) rfl ⟨rfl, by (repeat (first | exact Below.refl _ _ | (refine below_up ?_ hb; clear hb hc hf) | refine Below.setCell ?_ (by (try simp) <;> omega) _ | refine Below.alloc ?_ (by (try simp) <;> omega) _ | refine below_drewN ?_ | refine Below.drew ?_))⟩
  · rw [show addI a b = zeroI by unfold addI; rw [when2_no h]]
    by_cases v1 : Valid a
    · have v2 := validB_false (a := b) fun hb => h ⟨v1, hb⟩
      replace v1 := validB_true v1
      clear h
      go_enter Try.func52, Try.ntmps52
      go_wp2_with (first | (go_at_call 51; refine (rValid_any _ _).mono ?_; rintro e w' ⟨rfl, hb2⟩; first | ((first | replace hb := below_next hb2 hb | replace hb := below_next hb2 (below_drewN hb) | replace hb := below_next hb2 (below_alloc hb _) | replace hb := below_next hb2 (below_drewN (below_alloc hb _)) | replace hb := below_next hb2 (below_alloc (below_drewN hb) _) | replace hb := below_next hb2 (below_alloc (below_alloc hb _) _)); clear hb2 hc hf; obtain ⟨hc, hf⟩ := bcell hb) | (have hb := hb2; clear hb2; obtain ⟨hc, hf⟩ := bcell hb)))
      exact bodyPost_ret (v := .agg #[.int .i64 0, .int .i64 0]) (by first | (simp [results, Try.results52, go_sem, hc]; done) | (simp [results, Try.results52, go_sem]; done)) rfl ⟨rfl, by (repeat (first | exact Below.refl _ _ | (refine below_up ?_ hb; clear hb hc hf) | refine Below.setCell ?_ (by (try simp) <;> omega) _ | refine Below.alloc ?_ (by (try simp) <;> omega) _ | refine below_drewN ?_ | refine Below.drew ?_))⟩
    · replace v1 := validB_false v1
      clear h
      go_enter Try.func52, Try.ntmps52
      go_wp2_with (first | (go_at_call 51; refine (rValid_any _ _).mono ?_; rintro e w' ⟨rfl, hb2⟩; first | ((first | replace hb := below_next hb2 hb | replace hb := below_next hb2 (below_drewN hb) | replace hb := below_next hb2 (below_alloc hb _) | replace hb := below_next hb2 (below_drewN (below_alloc hb _)) | replace hb := below_next hb2 (below_alloc (below_drewN hb) _) | replace hb := below_next hb2 (below_alloc (below_alloc hb _) _)); clear hb2 hc hf; obtain ⟨hc, hf⟩ := bcell hb) | (have hb := hb2; clear hb2; obtain ⟨hc, hf⟩ := bcell hb)))
      exact bodyPost_ret (v := .agg #[.int .i64 0, .int .i64 0]) (by first | (simp [results, Try.results52, go_sem, hc]; done) | (simp [results, Try.results52, go_sem]; done)) rfl ⟨rfl, by (repeat (first | exact Below.refl _ _ | (refine below_up ?_ hb; clear hb hc hf) | refine Below.setCell ?_ (by (try simp) <;> omega) _ | refine Below.alloc ?_ (by (try simp) <;> omega) _ | refine below_drewN ?_ | refine Below.drew ?_))⟩
theorem Hull_any (a b : Iv) (w : World) :
    Calls Try.prog 85 #[ .agg #[.int .i64 a.lo, .int .i64 a.hi], .agg #[.int .i64 b.lo, .int .i64 b.hi] ] w fun e w' => e = .returned (.agg #[.int .i64 (hulI a b).lo, .int .i64 (hulI a b).hi]) ∧ Below w.heap.size w w' := by
  by_cases h : Valid a ∧ Valid b
  · obtain ⟨h1, h2⟩ := h
    have hv : (validB a && validB b) = true := by rw [validB_true h1, validB_true h2]; rfl
    have E := Lib.hid (show hulI a b = ⟨min a.lo b.lo, max a.hi b.hi⟩ by unfold hulI; rw [when2_yes h1 h2])
    rw [E.out]
    unfold Valid at h1 h2
    go_enter Try.func85, Try.ntmps85
    go_wp2_with (first | (go_at_call 81; refine (bothValid_any _ _ _).mono ?_; rintro e w' ⟨rfl, hb2⟩; first | ((first | replace hb := below_next hb2 hb | replace hb := below_next hb2 (below_drewN hb) | replace hb := below_next hb2 (below_alloc hb _) | replace hb := below_next hb2 (below_drewN (below_alloc hb _)) | replace hb := below_next hb2 (below_alloc (below_drewN hb) _) | replace hb := below_next hb2 (below_alloc (below_alloc hb _) _)); clear hb2 hc hf; obtain ⟨hc, hf⟩ := bcell hb) | (have hb := hb2; clear hb2; obtain ⟨hc, hf⟩ := bcell hb)))
    exact bodyPost_ret (v := .agg #[.int .i64 (min a.lo b.lo), .int .i64 (max a.hi b.hi)]) (by first | (simp [results, Try.results85, go_sem, hc]; done) | (simp [results, Try.results85, go_sem]; done)) rfl ⟨rfl, by (repeat (first | exact Below.refl _ _ | (refine below_up ?_ hb; clear hb hc hf) | refine Below.setCell ?_ (by (try simp) <;> omega) _ | refine Below.alloc ?_ (by (try simp) <;> omega) _ | refine below_drewN ?_ | refine Below.drew ?_))⟩
  · have hv : (validB a && validB b) = false := by unfold validB; simpa using h
    rw [show hulI a b = zeroI by unfold hulI; rw [when2_no h]]
    clear h
    go_enter Try.func85, Try.ntmps85
    go_wp2_with (first | (go_at_call 81; refine (bothValid_any _ _ _).mono ?_; rintro e w' ⟨rfl, hb2⟩; first | ((first | replace hb := below_next hb2 hb | replace hb := below_next hb2 (below_drewN hb) | replace hb := below_next hb2 (below_alloc hb _) | replace hb := below_next hb2 (below_drewN (below_alloc hb _)) | replace hb := below_next hb2 (below_alloc (below_drewN hb) _) | replace hb := below_next hb2 (below_alloc (below_alloc hb _) _)); clear hb2 hc hf; obtain ⟨hc, hf⟩ := bcell hb) | (have hb := hb2; clear hb2; obtain ⟨hc, hf⟩ := bcell hb)))
    exact bodyPost_ret (v := .agg #[.int .i64 0, .int .i64 0]) (by first | (simp [results, Try.results85, go_sem, hc]; done) | (simp [results, Try.results85, go_sem]; done)) rfl ⟨rfl, by (repeat (first | exact Below.refl _ _ | (refine below_up ?_ hb; clear hb hc hf) | refine Below.setCell ?_ (by (try simp) <;> omega) _ | refine Below.alloc ?_ (by (try simp) <;> omega) _ | refine below_drewN ?_ | refine Below.drew ?_))⟩
theorem rHull_any (a b : Iv) (w : World) :
    Calls Try.prog 89 #[ .agg #[.int .i64 a.lo, .int .i64 a.hi], .agg #[.int .i64 b.lo, .int .i64 b.hi] ] w fun e w' => e = .returned (.agg #[.int .i64 (hulI a b).lo, .int .i64 (hulI a b).hi]) ∧ Below w.heap.size w w' := by
  by_cases h : Valid a ∧ Valid b
  · obtain ⟨h1, h2⟩ := h
    have v1 := validB_true h1
    have v2 := validB_true h2
    have E := Lib.hid (show hulI a b = ⟨min a.lo b.lo, max a.hi b.hi⟩ by unfold hulI; rw [when2_yes h1 h2])
    rw [E.out]
    unfold Valid at h1 h2
    go_enter Try.func89, Try.ntmps89
    go_wp2_with (first | (go_at_call 51; refine (rValid_any _ _).mono ?_; rintro e w' ⟨rfl, hb2⟩; first | ((first | replace hb := below_next hb2 hb | replace hb := below_next hb2 (below_drewN hb) | replace hb := below_next hb2 (below_alloc hb _) | replace hb := below_next hb2 (below_drewN (below_alloc hb _)) | replace hb := below_next hb2 (below_alloc (below_drewN hb) _) | replace hb := below_next hb2 (below_alloc (below_alloc hb _) _)); clear hb2 hc hf; obtain ⟨hc, hf⟩ := bcell hb) | (have hb := hb2; clear hb2; obtain ⟨hc, hf⟩ := bcell hb)))
    exact bodyPost_ret (v := .agg #[.int .i64 (min a.lo b.lo), .int .i64 (max a.hi b.hi)]) (by first | (simp [results, Try.results89, go_sem, hc]; done) | (simp [results, Try.results89, go_sem]; done)) rfl ⟨rfl, by (repeat (first | exact Below.refl _ _ | (refine below_up ?_ hb; clear hb hc hf) | refine Below.setCell ?_ (by (try simp) <;> omega) _ | refine Below.alloc ?_ (by (try simp) <;> omega) _ | refine below_drewN ?_ | refine Below.drew ?_))⟩
  · rw [show hulI a b = zeroI by unfold hulI; rw [when2_no h]]
    by_cases v1 : Valid a
    · have v2 := validB_false (a := b) fun hb => h ⟨v1, hb⟩
      replace v1 := validB_true v1
      clear h
      go_enter Try.func89, Try.ntmps89
      go_wp2_with (first | (go_at_call 51; refine (rValid_any _ _).mono ?_; rintro e w' ⟨rfl, hb2⟩; first | ((first | replace hb := below_next hb2 hb | replace hb := below_next hb2 (below_drewN hb) | replace hb := below_next hb2 (below_alloc hb _) | replace hb := below_next hb2 (below_drewN (below_alloc hb _)) | replace hb := below_next hb2 (below_alloc (below_drewN hb) _) | replace hb := below_next hb2 (below_alloc (below_alloc hb _) _)); clear hb2 hc hf; obtain ⟨hc, hf⟩ := bcell hb) | (have hb := hb2; clear hb2; obtain ⟨hc, hf⟩ := bcell hb)))
      exact bodyPost_ret (v := .agg #[.int .i64 0, .int .i64 0]) (by first | (simp [results, Try.results89, go_sem, hc]; done) | (simp [results, Try.results89, go_sem]; done)) rfl ⟨rfl, by (repeat (first | exact Below.refl _ _ | (refine below_up ?_ hb; clear hb hc hf) | refine Below.setCell ?_ (by (try simp) <;> omega) _ | refine Below.alloc ?_ (by (try simp) <;> omega) _ | refine below_drewN ?_ | refine Below.drew ?_))⟩
    · replace v1 := validB_false v1
      clear h
      go_enter Try.func89, Try.ntmps89
      go_wp2_with (first | (go_at_call 51; refine (rValid_any _ _).mono ?_; rintro e w' ⟨rfl, hb2⟩; first | ((first | replace hb := below_next hb2 hb | replace hb := below_next hb2 (below_drewN hb) | replace hb := below_next hb2 (below_alloc hb _) | replace hb := below_next hb2 (below_drewN (below_alloc hb _)) | replace hb := below_next hb2 (below_alloc (below_drewN hb) _) | replace hb := below_next hb2 (below_alloc (below_alloc hb _) _)); clear hb2 hc hf; obtain ⟨hc, hf⟩ := bcell hb) | (have hb := hb2; clear hb2; obtain ⟨hc, hf⟩ := bcell hb)))
      exact bodyPost_ret (v := .agg #[.int .i64 0, .int .i64 0]) (by first | (simp [results, Try.results89, go_sem, hc]; done) | (simp [results, Try.results89, go_sem]; done)) rfl ⟨rfl, by (repeat (first | exact Below.refl _ _ | (refine below_up ?_ hb; clear hb hc hf) | refine Below.setCell ?_ (by (try simp) <;> omega) _ | refine Below.alloc ?_ (by (try simp) <;> omega) _ | refine below_drewN ?_ | refine Below.drew ?_))⟩
theorem Neg_any (a : Iv) (w : World) :
    Calls Try.prog 58 #[ .agg #[.int .i64 a.lo, .int .i64 a.hi] ] w fun e w' => e = .returned (.agg #[.int .i64 (negI a).lo, .int .i64 (negI a).hi]) ∧ Below w.heap.size w w' := by
  by_cases h1 : Valid a
  · have v1 := validB_true h1
    have E := Lib.hid (show negI a = ⟨-a.hi, -a.lo⟩ by unfold negI; rw [when1_yes h1])
    rw [E.out]
    unfold Valid at h1
    go_enter Try.func58, Try.ntmps58
    go_wp2_with (first | (go_at_call 55; refine (Valid_any _ _).mono ?_; rintro e w' ⟨rfl, hb2⟩; first | ((first | replace hb := below_next hb2 hb | replace hb := below_next hb2 (below_drewN hb) | replace hb := below_next hb2 (below_alloc hb _) | replace hb := below_next hb2 (below_drewN (below_alloc hb _)) | replace hb := below_next hb2 (below_alloc (below_drewN hb) _) | replace hb := below_next hb2 (below_alloc (below_alloc hb _) _)); clear hb2 hc hf; obtain ⟨hc, hf⟩ := bcell hb) | (have hb := hb2; clear hb2; obtain ⟨hc, hf⟩ := bcell hb)))
    exact bodyPost_ret (v := .agg #[.int .i64 (-a.hi), .int .i64 (-a.lo)]) (by first | (simp [results, Try.results58, go_sem, hc]; done) | (simp [results, Try.results58, go_sem]; done)) rfl ⟨rfl, by (repeat (first | exact Below.refl _ _ | (refine below_up ?_ hb; clear hb hc hf) | refine Below.setCell ?_ (by (try simp) <;> omega) _ | refine Below.alloc ?_ (by (try simp) <;> omega) _ | refine below_drewN ?_ | refine Below.drew ?_))⟩
  · rw [show negI a = zeroI by unfold negI; rw [when1_no h1]]
    replace h1 := validB_false h1
    go_enter Try.func58, Try.ntmps58
    go_wp2_with (first | (go_at_call 55; refine (Valid_any _ _).mono ?_; rintro e w' ⟨rfl, hb2⟩; first | ((first | replace hb := below_next hb2 hb | replace hb := below_next hb2 (below_drewN hb) | replace hb := below_next hb2 (below_alloc hb _) | replace hb := below_next hb2 (below_drewN (below_alloc hb _)) | replace hb := below_next hb2 (below_alloc (below_drewN hb) _) | replace hb := below_next hb2 (below_alloc (below_alloc hb _) _)); clear hb2 hc hf; obtain ⟨hc, hf⟩ := bcell hb) | (have hb := hb2; clear hb2; obtain ⟨hc, hf⟩ := bcell hb)))
    exact bodyPost_ret (v := .agg #[.int .i64 0, .int .i64 0]) (by first | (simp [results, Try.results58, go_sem, hc]; done) | (simp [results, Try.results58, go_sem]; done)) rfl ⟨rfl, by (repeat (first | exact Below.refl _ _ | (refine below_up ?_ hb; clear hb hc hf) | refine Below.setCell ?_ (by (try simp) <;> omega) _ | refine Below.alloc ?_ (by (try simp) <;> omega) _ | refine below_drewN ?_ | refine Below.drew ?_))⟩
theorem rNeg_any (a : Iv) (w : World) :
    Calls Try.prog 61 #[ .agg #[.int .i64 a.lo, .int .i64 a.hi] ] w fun e w' => e = .returned (.agg #[.int .i64 (negI a).lo, .int .i64 (negI a).hi]) ∧ Below w.heap.size w w' := by
  by_cases h1 : Valid a
  · have v1 := validB_true h1
    have E := Lib.hid (show negI a = ⟨-a.hi, -a.lo⟩ by unfold negI; rw [when1_yes h1])
    rw [E.out]
    unfold Valid at h1
    go_enter Try.func61, Try.ntmps61
    go_wp2_with (first | (go_at_call 51; refine (rValid_any _ _).mono ?_; rintro e w' ⟨rfl, hb2⟩; first | ((first | replace hb := below_next hb2 hb | replace hb := below_next hb2 (below_drewN hb) | replace hb := below_next hb2 (below_alloc hb _) | replace hb := below_next hb2 (below_drewN (below_alloc hb _)) | replace hb := below_next hb2 (below_alloc (below_drewN hb) _) | replace hb := below_next hb2 (below_alloc (below_alloc hb _) _)); clear hb2 hc hf; obtain ⟨hc, hf⟩ := bcell hb) | (have hb := hb2; clear hb2; obtain ⟨hc, hf⟩ := bcell hb)))
    exact bodyPost_ret (v := .agg #[.int .i64 (-a.hi), .int .i64 (-a.lo)]) (by first | (simp [results, Try.results61, go_sem, hc]; done) | (simp [results, Try.results61, go_sem]; done)) rfl ⟨rfl, by (repeat (first | exact Below.refl _ _ | (refine below_up ?_ hb; clear hb hc hf) | refine Below.setCell ?_ (by (try simp) <;> omega) _ | refine Below.alloc ?_ (by (try simp) <;> omega) _ | refine below_drewN ?_ | refine Below.drew ?_))⟩
  · rw [show negI a = zeroI by unfold negI; rw [when1_no h1]]
    replace h1 := validB_false h1
    go_enter Try.func61, Try.ntmps61
    go_wp2_with (first | (go_at_call 51; refine (rValid_any _ _).mono ?_; rintro e w' ⟨rfl, hb2⟩; first | ((first | replace hb := below_next hb2 hb | replace hb := below_next hb2 (below_drewN hb) | replace hb := below_next hb2 (below_alloc hb _) | replace hb := below_next hb2 (below_drewN (below_alloc hb _)) | replace hb := below_next hb2 (below_alloc (below_drewN hb) _) | replace hb := below_next hb2 (below_alloc (below_alloc hb _) _)); clear hb2 hc hf; obtain ⟨hc, hf⟩ := bcell hb) | (have hb := hb2; clear hb2; obtain ⟨hc, hf⟩ := bcell hb)))
    exact bodyPost_ret (v := .agg #[.int .i64 0, .int .i64 0]) (by first | (simp [results, Try.results61, go_sem, hc]; done) | (simp [results, Try.results61, go_sem]; done)) rfl ⟨rfl, by (repeat (first | exact Below.refl _ _ | (refine below_up ?_ hb; clear hb hc hf) | refine Below.setCell ?_ (by (try simp) <;> omega) _ | refine Below.alloc ?_ (by (try simp) <;> omega) _ | refine below_drewN ?_ | refine Below.drew ?_))⟩
end Go.Proofs.Ytdplgiccpjlelaa
