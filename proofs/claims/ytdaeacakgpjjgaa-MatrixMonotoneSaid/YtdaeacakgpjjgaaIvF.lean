/- Proved: the functions of package interval return the intervals that their namesakes in Iv compute, and turn nothing that was there before. Conditions: as each theorem states. -/
import Derived.Test.YtdaeacakgpjjgaaFix
import Derived.Test.YtdaeacakgpjjgaaIv
import Derived.Test.YtdaeacakgpjjgaaRoo
import Derived.Test.YtdaeacakgpjjgaaRef
import Derived.Outline
namespace Go.Proofs.Ytdaeacakgpjjgaa
open Go.RowKit

theorem bcell {W w1 : World} (hb : Below W.heap.size W w1) : (∀ b o, b < W.heap.size → w1.cell? ⟨b, o, none⟩ = W.cell? ⟨b, o, none⟩) ∧ (∀ b o, b < W.heap.size → w1.frozen? ⟨b, o, none⟩ = W.frozen? ⟨b, o, none⟩) :=
  ⟨fun b o h => hb.cell (p := ⟨b, o, none⟩) h, fun b o h => hb.frozen (p := ⟨b, o, none⟩) h⟩
theorem below_up {w W w' : World} (h : Below w.heap.size w W) (hb : Below W.heap.size W w') : Below w.heap.size w w' := h.trans (hb.mono h.size)
theorem below_next {W w1 w2 : World} (hb2 : Below w1.heap.size w1 w2) (h : Below W.heap.size W w1) : Below W.heap.size W w2 := h.trans (hb2.mono h.size)
theorem below_alloc {W w : World} (h : Below W.heap.size W w) (o : Obj) : Below W.heap.size W (w.alloc o) := h.alloc h.size o
theorem below_drewN {B : Nat} {a w : World} {n : Nat} (h : Below B a w) : Below B a (w.drewN n) := ⟨h.os, h.tape, h.output, h.size, h.block⟩
theorem ret_bool {a b : Bool} (h : a = b) : Ending.returned (.bool a) = .returned (.bool b) := by rw [h]

theorem Valid_any (a : Iv) (w : World) :
    Calls Try.prog 38 #[ .agg #[.int .i64 a.lo, .int .i64 a.hi] ] w fun e w' => e = .returned (.bool (validB a)) ∧ Below w.heap.size w w' := by
  by_cases h1 : -2147483648 ≤ a.lo
  · by_cases h2 : a.lo ≤ a.hi
    · by_cases h3 : a.hi ≤ 2147483648
      · have E := Lib.hid (validB_true ⟨h1, h2, h3⟩).symm
        go_enter Try.func38, Try.ntmps38
        go_wp2
        go_ret
        exact ⟨ret_bool E.out, (Below.refl _ _).alloc (Nat.le_refl _) _⟩
      · have E := Lib.hid (validB_false (a := a) fun h => h3 h.2.2).symm
        go_enter Try.func38, Try.ntmps38
        go_wp2
        go_ret
        exact ⟨ret_bool E.out, (Below.refl _ _).alloc (Nat.le_refl _) _⟩
    · have E := Lib.hid (validB_false (a := a) fun h => h2 h.2.1).symm
      go_enter Try.func38, Try.ntmps38
      go_wp2
      go_ret
      exact ⟨ret_bool E.out, (Below.refl _ _).alloc (Nat.le_refl _) _⟩
  · have E := Lib.hid (validB_false (a := a) fun h => h1 h.1).symm
    go_enter Try.func38, Try.ntmps38
    go_wp2
    go_ret
    exact ⟨ret_bool E.out, (Below.refl _ _).alloc (Nat.le_refl _) _⟩
theorem bothValid_any (a b : Iv) (w : World) :
    Calls Try.prog 72 #[ .agg #[.int .i64 a.lo, .int .i64 a.hi], .agg #[.int .i64 b.lo, .int .i64 b.hi] ] w fun e w' => e = .returned (.bool (validB a && validB b)) ∧ Below w.heap.size w w' := by
  by_cases h1 : validB a = true
  · go_enter Try.func72, Try.ntmps72
    go_wp2_with (first | (go_at_call 38; refine (Valid_any _ _).mono ?_; rintro e w' ⟨rfl, hb2⟩; first | ((first | replace hb := below_next hb2 hb | replace hb := below_next hb2 (below_drewN hb) | replace hb := below_next hb2 (below_alloc hb _) | replace hb := below_next hb2 (below_drewN (below_alloc hb _)) | replace hb := below_next hb2 (below_alloc (below_drewN hb) _) | replace hb := below_next hb2 (below_alloc (below_alloc hb _) _)); clear hb2 hc hf; obtain ⟨hc, hf⟩ := bcell hb) | (have hb := hb2; clear hb2; obtain ⟨hc, hf⟩ := bcell hb)))
    go_ret
    exact ⟨ret_bool (by rw [h1, Bool.true_and]), (((Below.refl _ _).alloc (Nat.le_refl _) _).alloc (by simp) _).trans (hb.mono (by simp; omega))⟩
  · replace h1 : validB a = false := by simpa using h1
    go_enter Try.func72, Try.ntmps72
    go_wp2_with (first | (go_at_call 38; refine (Valid_any _ _).mono ?_; rintro e w' ⟨rfl, hb2⟩; first | ((first | replace hb := below_next hb2 hb | replace hb := below_next hb2 (below_drewN hb) | replace hb := below_next hb2 (below_alloc hb _) | replace hb := below_next hb2 (below_drewN (below_alloc hb _)) | replace hb := below_next hb2 (below_alloc (below_drewN hb) _) | replace hb := below_next hb2 (below_alloc (below_alloc hb _) _)); clear hb2 hc hf; obtain ⟨hc, hf⟩ := bcell hb) | (have hb := hb2; clear hb2; obtain ⟨hc, hf⟩ := bcell hb)))
    go_ret
    exact ⟨ret_bool (by rw [h1, Bool.false_and]), (((Below.refl _ _).alloc (Nat.le_refl _) _).alloc (by simp) _).trans (hb.mono (by simp; omega))⟩
theorem limited_any (x y : Int) (w : World) :
    Calls Try.prog 62 #[ .int .i64 x, .int .i64 y ] w fun e w' => e = .returned (.agg #[.int .i64 (limI x y).lo, .int .i64 (limI x y).hi]) ∧ Below w.heap.size w w' := by
  go_enter Try.func62, Try.ntmps62
  go_wp2_with (first | (go_at_call 78; refine (clamp_any _ _).mono ?_; rintro e w' ⟨rfl, rfl⟩))
  exact bodyPost_ret (v := .agg #[.int .i64 (clampI x), .int .i64 (clampI y)]) (by first | (simp [results, Try.results62, go_sem, hc]; done) | (simp [results, Try.results62, go_sem]; done)) rfl ⟨rfl, by (repeat (first | exact Below.refl _ _ | (refine below_up ?_ hb; clear hb hc hf) | refine Below.setCell ?_ (by (try simp) <;> omega) _ | refine Below.alloc ?_ (by (try simp) <;> omega) _ | refine below_drewN ?_ | refine Below.drew ?_))⟩
theorem Of_any (x : Int) (w : World) :
    Calls Try.prog 39 #[ .int .i64 x ] w fun e w' => e = .returned (.agg #[.int .i64 (ofI x).lo, .int .i64 (ofI x).hi]) ∧ Below w.heap.size w w' := by
  go_enter Try.func39, Try.ntmps39
  go_wp2_with (first | (go_at_call 62; refine (limited_any _ _ _).mono ?_; rintro e w' ⟨rfl, hb2⟩; first | ((first | replace hb := below_next hb2 hb | replace hb := below_next hb2 (below_drewN hb) | replace hb := below_next hb2 (below_alloc hb _) | replace hb := below_next hb2 (below_drewN (below_alloc hb _)) | replace hb := below_next hb2 (below_alloc (below_drewN hb) _) | replace hb := below_next hb2 (below_alloc (below_alloc hb _) _)); clear hb2 hc hf; obtain ⟨hc, hf⟩ := bcell hb) | (have hb := hb2; clear hb2; obtain ⟨hc, hf⟩ := bcell hb)))
  exact bodyPost_ret (v := .agg #[.int .i64 (limI x x).lo, .int .i64 (limI x x).hi]) (by first | (simp [results, Try.results39, go_sem, hc]; done) | (simp [results, Try.results39, go_sem]; done)) rfl ⟨rfl, by (repeat (first | exact Below.refl _ _ | (refine below_up ?_ hb; clear hb hc hf) | refine Below.setCell ?_ (by (try simp) <;> omega) _ | refine Below.alloc ?_ (by (try simp) <;> omega) _ | refine below_drewN ?_ | refine Below.drew ?_))⟩
theorem rValid_any (a : Iv) (w : World) :
    Calls Try.prog 43 #[ .agg #[.int .i64 a.lo, .int .i64 a.hi] ] w fun e w' => e = .returned (.bool (validB a)) ∧ Below w.heap.size w w' := by
  by_cases h1 : -2147483648 ≤ a.lo
  · by_cases h2 : a.lo ≤ a.hi
    · by_cases h3 : a.hi ≤ 2147483648
      · have E := Lib.hid (validB_true ⟨h1, h2, h3⟩).symm
        go_enter Try.func43, Try.ntmps43
        go_wp2
        go_ret
        exact ⟨ret_bool E.out, (Below.refl _ _).alloc (Nat.le_refl _) _⟩
      · have E := Lib.hid (validB_false (a := a) fun h => h3 h.2.2).symm
        go_enter Try.func43, Try.ntmps43
        go_wp2
        go_ret
        exact ⟨ret_bool E.out, (Below.refl _ _).alloc (Nat.le_refl _) _⟩
    · have E := Lib.hid (validB_false (a := a) fun h => h2 h.2.1).symm
      go_enter Try.func43, Try.ntmps43
      go_wp2
      go_ret
      exact ⟨ret_bool E.out, (Below.refl _ _).alloc (Nat.le_refl _) _⟩
  · have E := Lib.hid (validB_false (a := a) fun h => h1 h.1).symm
    go_enter Try.func43, Try.ntmps43
    go_wp2
    go_ret
    exact ⟨ret_bool E.out, (Below.refl _ _).alloc (Nat.le_refl _) _⟩
theorem rlimited_any (x y : Int) (w : World) :
    Calls Try.prog 75 #[ .int .i64 x, .int .i64 y ] w fun e w' => e = .returned (.agg #[.int .i64 (limI x y).lo, .int .i64 (limI x y).hi]) ∧ Below w.heap.size w w' := by
  go_enter Try.func75, Try.ntmps75
  go_wp2_with (first | (go_at_call 54; refine (refClamp_any _ _).mono ?_; rintro e w' ⟨rfl, rfl⟩))
  exact bodyPost_ret (v := .agg #[.int .i64 (clampI x), .int .i64 (clampI y)]) (by first | (simp [results, Try.results75, go_sem, hc]; done) | (simp [results, Try.results75, go_sem]; done)) rfl ⟨rfl, by (repeat (first | exact Below.refl _ _ | (refine below_up ?_ hb; clear hb hc hf) | refine Below.setCell ?_ (by (try simp) <;> omega) _ | refine Below.alloc ?_ (by (try simp) <;> omega) _ | refine below_drewN ?_ | refine Below.drew ?_))⟩
theorem rOf_any (x : Int) (w : World) :
    Calls Try.prog 33 #[ .int .i64 x ] w fun e w' => e = .returned (.agg #[.int .i64 (ofI x).lo, .int .i64 (ofI x).hi]) ∧ Below w.heap.size w w' := by
  go_enter Try.func33, Try.ntmps33
  go_wp2_with (first | (go_at_call 54; refine (refClamp_any _ _).mono ?_; rintro e w' ⟨rfl, rfl⟩))
  exact bodyPost_ret (v := .agg #[.int .i64 (clampI x), .int .i64 (clampI x)]) (by first | (simp [results, Try.results33, go_sem, hc]; done) | (simp [results, Try.results33, go_sem]; done)) rfl ⟨rfl, by (repeat (first | exact Below.refl _ _ | (refine below_up ?_ hb; clear hb hc hf) | refine Below.setCell ?_ (by (try simp) <;> omega) _ | refine Below.alloc ?_ (by (try simp) <;> omega) _ | refine below_drewN ?_ | refine Below.drew ?_))⟩
theorem Add_any (a b : Iv) (w : World) :
    Calls Try.prog 58 #[ .agg #[.int .i64 a.lo, .int .i64 a.hi], .agg #[.int .i64 b.lo, .int .i64 b.hi] ] w fun e w' => e = .returned (.agg #[.int .i64 (addI a b).lo, .int .i64 (addI a b).hi]) ∧ Below w.heap.size w w' := by
  by_cases h : Valid a ∧ Valid b
  · obtain ⟨h1, h2⟩ := h
    have hv : (validB a && validB b) = true := by rw [validB_true h1, validB_true h2]; rfl
    have E := Lib.hid (show addI a b = limI (a.lo + b.lo) (a.hi + b.hi) by unfold addI; rw [when2_yes h1 h2])
    rw [E.out]
    unfold Valid at h1 h2
    go_enter Try.func58, Try.ntmps58
    go_wp2_with (first | (go_at_call 72; refine (bothValid_any _ _ _).mono ?_; rintro e w' ⟨rfl, hb2⟩; first | ((first | replace hb := below_next hb2 hb | replace hb := below_next hb2 (below_drewN hb) | replace hb := below_next hb2 (below_alloc hb _) | replace hb := below_next hb2 (below_drewN (below_alloc hb _)) | replace hb := below_next hb2 (below_alloc (below_drewN hb) _) | replace hb := below_next hb2 (below_alloc (below_alloc hb _) _)); clear hb2 hc hf; obtain ⟨hc, hf⟩ := bcell hb) | (have hb := hb2; clear hb2; obtain ⟨hc, hf⟩ := bcell hb)) | (go_at_call 62; refine (limited_any _ _ _).mono ?_; rintro e w' ⟨rfl, hb2⟩; first | ((first | replace hb := below_next hb2 hb | replace hb := below_next hb2 (below_drewN hb) | replace hb := below_next hb2 (below_alloc hb _) | replace hb := below_next hb2 (below_drewN (below_alloc hb _)) | replace hb := below_next hb2 (below_alloc (below_drewN hb) _) | replace hb := below_next hb2 (below_alloc (below_alloc hb _) _)); clear hb2 hc hf; obtain ⟨hc, hf⟩ := bcell hb) | (have hb := hb2; clear hb2; obtain ⟨hc, hf⟩ := bcell hb)))
    exact bodyPost_ret (v := .agg #[.int .i64 (limI (a.lo + b.lo) (a.hi + b.hi)).lo, .int .i64 (limI (a.lo + b.lo) (a.hi + b.hi)).hi]) (by first | (simp [results, Try.results58, go_sem, hc]; done) | (simp [results, Try.results58, go_sem]; done)) rfl ⟨rfl, by (repeat (first | exact Below.refl _ _ | (refine below_up ?_ hb; clear hb hc hf) | refine Below.setCell ?_ (by (try simp) <;> omega) _ | refine Below.alloc ?_ (by (try simp) <;> omega) _ | refine below_drewN ?_ | refine Below.drew ?_))⟩
  · have hv : (validB a && validB b) = false := by unfold validB; simpa using h
    rw [show addI a b = zeroI by unfold addI; rw [when2_no h]]
    clear h
    go_enter Try.func58, Try.ntmps58
    go_wp2_with (first | (go_at_call 72; refine (bothValid_any _ _ _).mono ?_; rintro e w' ⟨rfl, hb2⟩; first | ((first | replace hb := below_next hb2 hb | replace hb := below_next hb2 (below_drewN hb) | replace hb := below_next hb2 (below_alloc hb _) | replace hb := below_next hb2 (below_drewN (below_alloc hb _)) | replace hb := below_next hb2 (below_alloc (below_drewN hb) _) | replace hb := below_next hb2 (below_alloc (below_alloc hb _) _)); clear hb2 hc hf; obtain ⟨hc, hf⟩ := bcell hb) | (have hb := hb2; clear hb2; obtain ⟨hc, hf⟩ := bcell hb)))
    exact bodyPost_ret (v := .agg #[.int .i64 0, .int .i64 0]) (by first | (simp [results, Try.results58, go_sem, hc]; done) | (simp [results, Try.results58, go_sem]; done)) rfl ⟨rfl, by (repeat (first | exact Below.refl _ _ | (refine below_up ?_ hb; clear hb hc hf) | refine Below.setCell ?_ (by (try simp) <;> omega) _ | refine Below.alloc ?_ (by (try simp) <;> omega) _ | refine below_drewN ?_ | refine Below.drew ?_))⟩
theorem Sub_any (a b : Iv) (w : World) :
    Calls Try.prog 59 #[ .agg #[.int .i64 a.lo, .int .i64 a.hi], .agg #[.int .i64 b.lo, .int .i64 b.hi] ] w fun e w' => e = .returned (.agg #[.int .i64 (subI a b).lo, .int .i64 (subI a b).hi]) ∧ Below w.heap.size w w' := by
  by_cases h : Valid a ∧ Valid b
  · obtain ⟨h1, h2⟩ := h
    have hv : (validB a && validB b) = true := by rw [validB_true h1, validB_true h2]; rfl
    have E := Lib.hid (show subI a b = limI (a.lo - b.hi) (a.hi - b.lo) by unfold subI; rw [when2_yes h1 h2])
    rw [E.out]
    unfold Valid at h1 h2
    go_enter Try.func59, Try.ntmps59
    go_wp2_with (first | (go_at_call 72; refine (bothValid_any _ _ _).mono ?_; rintro e w' ⟨rfl, hb2⟩; first | ((first | replace hb := below_next hb2 hb | replace hb := below_next hb2 (below_drewN hb) | replace hb := below_next hb2 (below_alloc hb _) | replace hb := below_next hb2 (below_drewN (below_alloc hb _)) | replace hb := below_next hb2 (below_alloc (below_drewN hb) _) | replace hb := below_next hb2 (below_alloc (below_alloc hb _) _)); clear hb2 hc hf; obtain ⟨hc, hf⟩ := bcell hb) | (have hb := hb2; clear hb2; obtain ⟨hc, hf⟩ := bcell hb)) | (go_at_call 62; refine (limited_any _ _ _).mono ?_; rintro e w' ⟨rfl, hb2⟩; first | ((first | replace hb := below_next hb2 hb | replace hb := below_next hb2 (below_drewN hb) | replace hb := below_next hb2 (below_alloc hb _) | replace hb := below_next hb2 (below_drewN (below_alloc hb _)) | replace hb := below_next hb2 (below_alloc (below_drewN hb) _) | replace hb := below_next hb2 (below_alloc (below_alloc hb _) _)); clear hb2 hc hf; obtain ⟨hc, hf⟩ := bcell hb) | (have hb := hb2; clear hb2; obtain ⟨hc, hf⟩ := bcell hb)))
    exact bodyPost_ret (v := .agg #[.int .i64 (limI (a.lo - b.hi) (a.hi - b.lo)).lo, .int .i64 (limI (a.lo - b.hi) (a.hi - b.lo)).hi]) (by first | (simp [results, Try.results59, go_sem, hc]; done) | (simp [results, Try.results59, go_sem]; done)) rfl ⟨rfl, by (repeat (first | exact Below.refl _ _ | (refine below_up ?_ hb; clear hb hc hf) | refine Below.setCell ?_ (by (try simp) <;> omega) _ | refine Below.alloc ?_ (by (try simp) <;> omega) _ | refine below_drewN ?_ | refine Below.drew ?_))⟩
  · have hv : (validB a && validB b) = false := by unfold validB; simpa using h
    rw [show subI a b = zeroI by unfold subI; rw [when2_no h]]
    clear h
    go_enter Try.func59, Try.ntmps59
    go_wp2_with (first | (go_at_call 72; refine (bothValid_any _ _ _).mono ?_; rintro e w' ⟨rfl, hb2⟩; first | ((first | replace hb := below_next hb2 hb | replace hb := below_next hb2 (below_drewN hb) | replace hb := below_next hb2 (below_alloc hb _) | replace hb := below_next hb2 (below_drewN (below_alloc hb _)) | replace hb := below_next hb2 (below_alloc (below_drewN hb) _) | replace hb := below_next hb2 (below_alloc (below_alloc hb _) _)); clear hb2 hc hf; obtain ⟨hc, hf⟩ := bcell hb) | (have hb := hb2; clear hb2; obtain ⟨hc, hf⟩ := bcell hb)))
    exact bodyPost_ret (v := .agg #[.int .i64 0, .int .i64 0]) (by first | (simp [results, Try.results59, go_sem, hc]; done) | (simp [results, Try.results59, go_sem]; done)) rfl ⟨rfl, by (repeat (first | exact Below.refl _ _ | (refine below_up ?_ hb; clear hb hc hf) | refine Below.setCell ?_ (by (try simp) <;> omega) _ | refine Below.alloc ?_ (by (try simp) <;> omega) _ | refine below_drewN ?_ | refine Below.drew ?_))⟩
theorem rAdd_any (a b : Iv) (w : World) :
    Calls Try.prog 60 #[ .agg #[.int .i64 a.lo, .int .i64 a.hi], .agg #[.int .i64 b.lo, .int .i64 b.hi] ] w fun e w' => e = .returned (.agg #[.int .i64 (addI a b).lo, .int .i64 (addI a b).hi]) ∧ Below w.heap.size w w' := by
  by_cases h : Valid a ∧ Valid b
  · obtain ⟨h1, h2⟩ := h
    have v1 := validB_true h1
    have v2 := validB_true h2
    have E := Lib.hid (show addI a b = limI (a.lo + b.lo) (a.hi + b.hi) by unfold addI; rw [when2_yes h1 h2])
    rw [E.out]
    unfold Valid at h1 h2
    go_enter Try.func60, Try.ntmps60
    go_wp2_with (first | (go_at_call 43; refine (rValid_any _ _).mono ?_; rintro e w' ⟨rfl, hb2⟩; first | ((first | replace hb := below_next hb2 hb | replace hb := below_next hb2 (below_drewN hb) | replace hb := below_next hb2 (below_alloc hb _) | replace hb := below_next hb2 (below_drewN (below_alloc hb _)) | replace hb := below_next hb2 (below_alloc (below_drewN hb) _) | replace hb := below_next hb2 (below_alloc (below_alloc hb _) _)); clear hb2 hc hf; obtain ⟨hc, hf⟩ := bcell hb) | (have hb := hb2; clear hb2; obtain ⟨hc, hf⟩ := bcell hb)) | (go_at_call 75; refine (rlimited_any _ _ _).mono ?_; rintro e w' ⟨rfl, hb2⟩; first | ((first | replace hb := below_next hb2 hb | replace hb := below_next hb2 (below_drewN hb) | replace hb := below_next hb2 (below_alloc hb _) | replace hb := below_next hb2 (below_drewN (below_alloc hb _)) | replace hb := below_next hb2 (below_alloc (below_drewN hb) _) | replace hb := below_next hb2 (below_alloc (below_alloc hb _) _)); clear hb2 hc hf; obtain ⟨hc, hf⟩ := bcell hb) | (have hb := hb2; clear hb2; obtain ⟨hc, hf⟩ := bcell hb)))
    exact bodyPost_ret (v := .agg #[.int .i64 (limI (a.lo + b.lo) (a.hi + b.hi)).lo, .int .i64 (limI (a.lo + b.lo) (a.hi + b.hi)).hi]) (by first | (simp [results, Try.results60, go_sem, hc]; done) | (simp [results, Try.results60, go_sem]; done)) rfl ⟨rfl, by (repeat (first | exact Below.refl _ _ | (refine below_up ?_ hb; clear hb hc hf) | refine Below.setCell ?_ (by (try simp) <;> omega) _ | refine Below.alloc ?_ (by (try simp) <;> omega) _ | refine below_drewN ?_ | refine Below.drew ?_))⟩
  · rw [show addI a b = zeroI by unfold addI; rw [when2_no h]]
    by_cases v1 : Valid a
    · have v2 := validB_false (a := b) fun hb => h ⟨v1, hb⟩
      replace v1 := validB_true v1
      clear h
      go_enter Try.func60, Try.ntmps60
      go_wp2_with (first | (go_at_call 43; refine (rValid_any _ _).mono ?_; rintro e w' ⟨rfl, hb2⟩; first | ((first | replace hb := below_next hb2 hb | replace hb := below_next hb2 (below_drewN hb) | replace hb := below_next hb2 (below_alloc hb _) | replace hb := below_next hb2 (below_drewN (below_alloc hb _)) | replace hb := below_next hb2 (below_alloc (below_drewN hb) _) | replace hb := below_next hb2 (below_alloc (below_alloc hb _) _)); clear hb2 hc hf; obtain ⟨hc, hf⟩ := bcell hb) | (have hb := hb2; clear hb2; obtain ⟨hc, hf⟩ := bcell hb)))
      exact bodyPost_ret (v := .agg #[.int .i64 0, .int .i64 0]) (by first | (simp [results, Try.results60, go_sem, hc]; done) | (simp [results, Try.results60, go_sem]; done)) rfl ⟨rfl, by (repeat (first | exact Below.refl _ _ | (refine below_up ?_ hb; clear hb hc hf) | refine Below.setCell ?_ (by (try simp) <;> omega) _ | refine Below.alloc ?_ (by (try simp) <;> omega) _ | refine below_drewN ?_ | refine Below.drew ?_))⟩
    · replace v1 := validB_false v1
      clear h
      go_enter Try.func60, Try.ntmps60
      go_wp2_with (first | (go_at_call 43; refine (rValid_any _ _).mono ?_; rintro e w' ⟨rfl, hb2⟩; first | ((first | replace hb := below_next hb2 hb | replace hb := below_next hb2 (below_drewN hb) | replace hb := below_next hb2 (below_alloc hb _) | replace hb := below_next hb2 (below_drewN (below_alloc hb _)) | replace hb := below_next hb2 (below_alloc (below_drewN hb) _) | replace hb := below_next hb2 (below_alloc (below_alloc hb _) _)); clear hb2 hc hf; obtain ⟨hc, hf⟩ := bcell hb) | (have hb := hb2; clear hb2; obtain ⟨hc, hf⟩ := bcell hb)))
      exact bodyPost_ret (v := .agg #[.int .i64 0, .int .i64 0]) (by first | (simp [results, Try.results60, go_sem, hc]; done) | (simp [results, Try.results60, go_sem]; done)) rfl ⟨rfl, by (repeat (first | exact Below.refl _ _ | (refine below_up ?_ hb; clear hb hc hf) | refine Below.setCell ?_ (by (try simp) <;> omega) _ | refine Below.alloc ?_ (by (try simp) <;> omega) _ | refine below_drewN ?_ | refine Below.drew ?_))⟩
theorem rSub_any (a b : Iv) (w : World) :
    Calls Try.prog 70 #[ .agg #[.int .i64 a.lo, .int .i64 a.hi], .agg #[.int .i64 b.lo, .int .i64 b.hi] ] w fun e w' => e = .returned (.agg #[.int .i64 (subI a b).lo, .int .i64 (subI a b).hi]) ∧ Below w.heap.size w w' := by
  by_cases h : Valid a ∧ Valid b
  · obtain ⟨h1, h2⟩ := h
    have v1 := validB_true h1
    have v2 := validB_true h2
    have E := Lib.hid (show subI a b = limI (a.lo - b.hi) (a.hi - b.lo) by unfold subI; rw [when2_yes h1 h2])
    rw [E.out]
    unfold Valid at h1 h2
    go_enter Try.func70, Try.ntmps70
    go_wp2_with (first | (go_at_call 43; refine (rValid_any _ _).mono ?_; rintro e w' ⟨rfl, hb2⟩; first | ((first | replace hb := below_next hb2 hb | replace hb := below_next hb2 (below_drewN hb) | replace hb := below_next hb2 (below_alloc hb _) | replace hb := below_next hb2 (below_drewN (below_alloc hb _)) | replace hb := below_next hb2 (below_alloc (below_drewN hb) _) | replace hb := below_next hb2 (below_alloc (below_alloc hb _) _)); clear hb2 hc hf; obtain ⟨hc, hf⟩ := bcell hb) | (have hb := hb2; clear hb2; obtain ⟨hc, hf⟩ := bcell hb)) | (go_at_call 75; refine (rlimited_any _ _ _).mono ?_; rintro e w' ⟨rfl, hb2⟩; first | ((first | replace hb := below_next hb2 hb | replace hb := below_next hb2 (below_drewN hb) | replace hb := below_next hb2 (below_alloc hb _) | replace hb := below_next hb2 (below_drewN (below_alloc hb _)) | replace hb := below_next hb2 (below_alloc (below_drewN hb) _) | replace hb := below_next hb2 (below_alloc (below_alloc hb _) _)); clear hb2 hc hf; obtain ⟨hc, hf⟩ := bcell hb) | (have hb := hb2; clear hb2; obtain ⟨hc, hf⟩ := bcell hb)))
    exact bodyPost_ret (v := .agg #[.int .i64 (limI (a.lo - b.hi) (a.hi - b.lo)).lo, .int .i64 (limI (a.lo - b.hi) (a.hi - b.lo)).hi]) (by first | (simp [results, Try.results70, go_sem, hc]; done) | (simp [results, Try.results70, go_sem]; done)) rfl ⟨rfl, by (repeat (first | exact Below.refl _ _ | (refine below_up ?_ hb; clear hb hc hf) | refine Below.setCell ?_ (by (try simp) <;> omega) _ | refine Below.alloc ?_ (by (try simp) <;> omega) _ | refine below_drewN ?_ | refine Below.drew ?_))⟩
  · rw [show subI a b = zeroI by unfold subI; rw [when2_no h]]
    by_cases v1 : Valid a
    · have v2 := validB_false (a := b) fun hb => h ⟨v1, hb⟩
      replace v1 := validB_true v1
      clear h
      go_enter Try.func70, Try.ntmps70
      go_wp2_with (first | (go_at_call 43; refine (rValid_any _ _).mono ?_; rintro e w' ⟨rfl, hb2⟩; first | ((first | replace hb := below_next hb2 hb | replace hb := below_next hb2 (below_drewN hb) | replace hb := below_next hb2 (below_alloc hb _) | replace hb := below_next hb2 (below_drewN (below_alloc hb _)) | replace hb := below_next hb2 (below_alloc (below_drewN hb) _) | replace hb := below_next hb2 (below_alloc (below_alloc hb _) _)); clear hb2 hc hf; obtain ⟨hc, hf⟩ := bcell hb) | (have hb := hb2; clear hb2; obtain ⟨hc, hf⟩ := bcell hb)))
      exact bodyPost_ret (v := .agg #[.int .i64 0, .int .i64 0]) (by first | (simp [results, Try.results70, go_sem, hc]; done) | (simp [results, Try.results70, go_sem]; done)) rfl ⟨rfl, by (repeat (first | exact Below.refl _ _ | (refine below_up ?_ hb; clear hb hc hf) | refine Below.setCell ?_ (by (try simp) <;> omega) _ | refine Below.alloc ?_ (by (try simp) <;> omega) _ | refine below_drewN ?_ | refine Below.drew ?_))⟩
    · replace v1 := validB_false v1
      clear h
      go_enter Try.func70, Try.ntmps70
      go_wp2_with (first | (go_at_call 43; refine (rValid_any _ _).mono ?_; rintro e w' ⟨rfl, hb2⟩; first | ((first | replace hb := below_next hb2 hb | replace hb := below_next hb2 (below_drewN hb) | replace hb := below_next hb2 (below_alloc hb _) | replace hb := below_next hb2 (below_drewN (below_alloc hb _)) | replace hb := below_next hb2 (below_alloc (below_drewN hb) _) | replace hb := below_next hb2 (below_alloc (below_alloc hb _) _)); clear hb2 hc hf; obtain ⟨hc, hf⟩ := bcell hb) | (have hb := hb2; clear hb2; obtain ⟨hc, hf⟩ := bcell hb)))
      exact bodyPost_ret (v := .agg #[.int .i64 0, .int .i64 0]) (by first | (simp [results, Try.results70, go_sem, hc]; done) | (simp [results, Try.results70, go_sem]; done)) rfl ⟨rfl, by (repeat (first | exact Below.refl _ _ | (refine below_up ?_ hb; clear hb hc hf) | refine Below.setCell ?_ (by (try simp) <;> omega) _ | refine Below.alloc ?_ (by (try simp) <;> omega) _ | refine below_drewN ?_ | refine Below.drew ?_))⟩
theorem Hull_any (a b : Iv) (w : World) :
    Calls Try.prog 80 #[ .agg #[.int .i64 a.lo, .int .i64 a.hi], .agg #[.int .i64 b.lo, .int .i64 b.hi] ] w fun e w' => e = .returned (.agg #[.int .i64 (hulI a b).lo, .int .i64 (hulI a b).hi]) ∧ Below w.heap.size w w' := by
  by_cases h : Valid a ∧ Valid b
  · obtain ⟨h1, h2⟩ := h
    have hv : (validB a && validB b) = true := by rw [validB_true h1, validB_true h2]; rfl
    have E := Lib.hid (show hulI a b = ⟨min a.lo b.lo, max a.hi b.hi⟩ by unfold hulI; rw [when2_yes h1 h2])
    rw [E.out]
    unfold Valid at h1 h2
    go_enter Try.func80, Try.ntmps80
    go_wp2_with (first | (go_at_call 72; refine (bothValid_any _ _ _).mono ?_; rintro e w' ⟨rfl, hb2⟩; first | ((first | replace hb := below_next hb2 hb | replace hb := below_next hb2 (below_drewN hb) | replace hb := below_next hb2 (below_alloc hb _) | replace hb := below_next hb2 (below_drewN (below_alloc hb _)) | replace hb := below_next hb2 (below_alloc (below_drewN hb) _) | replace hb := below_next hb2 (below_alloc (below_alloc hb _) _)); clear hb2 hc hf; obtain ⟨hc, hf⟩ := bcell hb) | (have hb := hb2; clear hb2; obtain ⟨hc, hf⟩ := bcell hb)))
    exact bodyPost_ret (v := .agg #[.int .i64 (min a.lo b.lo), .int .i64 (max a.hi b.hi)]) (by first | (simp [results, Try.results80, go_sem, hc]; done) | (simp [results, Try.results80, go_sem]; done)) rfl ⟨rfl, by (repeat (first | exact Below.refl _ _ | (refine below_up ?_ hb; clear hb hc hf) | refine Below.setCell ?_ (by (try simp) <;> omega) _ | refine Below.alloc ?_ (by (try simp) <;> omega) _ | refine below_drewN ?_ | refine Below.drew ?_))⟩
  · have hv : (validB a && validB b) = false := by unfold validB; simpa using h
    rw [show hulI a b = zeroI by unfold hulI; rw [when2_no h]]
    clear h
    go_enter Try.func80, Try.ntmps80
    go_wp2_with (first | (go_at_call 72; refine (bothValid_any _ _ _).mono ?_; rintro e w' ⟨rfl, hb2⟩; first | ((first | replace hb := below_next hb2 hb | replace hb := below_next hb2 (below_drewN hb) | replace hb := below_next hb2 (below_alloc hb _) | replace hb := below_next hb2 (below_drewN (below_alloc hb _)) | replace hb := below_next hb2 (below_alloc (below_drewN hb) _) | replace hb := below_next hb2 (below_alloc (below_alloc hb _) _)); clear hb2 hc hf; obtain ⟨hc, hf⟩ := bcell hb) | (have hb := hb2; clear hb2; obtain ⟨hc, hf⟩ := bcell hb)))
    exact bodyPost_ret (v := .agg #[.int .i64 0, .int .i64 0]) (by first | (simp [results, Try.results80, go_sem, hc]; done) | (simp [results, Try.results80, go_sem]; done)) rfl ⟨rfl, by (repeat (first | exact Below.refl _ _ | (refine below_up ?_ hb; clear hb hc hf) | refine Below.setCell ?_ (by (try simp) <;> omega) _ | refine Below.alloc ?_ (by (try simp) <;> omega) _ | refine below_drewN ?_ | refine Below.drew ?_))⟩
theorem rHull_any (a b : Iv) (w : World) :
    Calls Try.prog 84 #[ .agg #[.int .i64 a.lo, .int .i64 a.hi], .agg #[.int .i64 b.lo, .int .i64 b.hi] ] w fun e w' => e = .returned (.agg #[.int .i64 (hulI a b).lo, .int .i64 (hulI a b).hi]) ∧ Below w.heap.size w w' := by
  by_cases h : Valid a ∧ Valid b
  · obtain ⟨h1, h2⟩ := h
    have v1 := validB_true h1
    have v2 := validB_true h2
    have E := Lib.hid (show hulI a b = ⟨min a.lo b.lo, max a.hi b.hi⟩ by unfold hulI; rw [when2_yes h1 h2])
    rw [E.out]
    unfold Valid at h1 h2
    go_enter Try.func84, Try.ntmps84
    go_wp2_with (first | (go_at_call 43; refine (rValid_any _ _).mono ?_; rintro e w' ⟨rfl, hb2⟩; first | ((first | replace hb := below_next hb2 hb | replace hb := below_next hb2 (below_drewN hb) | replace hb := below_next hb2 (below_alloc hb _) | replace hb := below_next hb2 (below_drewN (below_alloc hb _)) | replace hb := below_next hb2 (below_alloc (below_drewN hb) _) | replace hb := below_next hb2 (below_alloc (below_alloc hb _) _)); clear hb2 hc hf; obtain ⟨hc, hf⟩ := bcell hb) | (have hb := hb2; clear hb2; obtain ⟨hc, hf⟩ := bcell hb)))
    exact bodyPost_ret (v := .agg #[.int .i64 (min a.lo b.lo), .int .i64 (max a.hi b.hi)]) (by first | (simp [results, Try.results84, go_sem, hc]; done) | (simp [results, Try.results84, go_sem]; done)) rfl ⟨rfl, by (repeat (first | exact Below.refl _ _ | (refine below_up ?_ hb; clear hb hc hf) | refine Below.setCell ?_ (by (try simp) <;> omega) _ | refine Below.alloc ?_ (by (try simp) <;> omega) _ | refine below_drewN ?_ | refine Below.drew ?_))⟩
  · rw [show hulI a b = zeroI by unfold hulI; rw [when2_no h]]
    by_cases v1 : Valid a
    · have v2 := validB_false (a := b) fun hb => h ⟨v1, hb⟩
      replace v1 := validB_true v1
      clear h
      go_enter Try.func84, Try.ntmps84
      go_wp2_with (first | (go_at_call 43; refine (rValid_any _ _).mono ?_; rintro e w' ⟨rfl, hb2⟩; first | ((first | replace hb := below_next hb2 hb | replace hb := below_next hb2 (below_drewN hb) | replace hb := below_next hb2 (below_alloc hb _) | replace hb := below_next hb2 (below_drewN (below_alloc hb _)) | replace hb := below_next hb2 (below_alloc (below_drewN hb) _) | replace hb := below_next hb2 (below_alloc (below_alloc hb _) _)); clear hb2 hc hf; obtain ⟨hc, hf⟩ := bcell hb) | (have hb := hb2; clear hb2; obtain ⟨hc, hf⟩ := bcell hb)))
      exact bodyPost_ret (v := .agg #[.int .i64 0, .int .i64 0]) (by first | (simp [results, Try.results84, go_sem, hc]; done) | (simp [results, Try.results84, go_sem]; done)) rfl ⟨rfl, by (repeat (first | exact Below.refl _ _ | (refine below_up ?_ hb; clear hb hc hf) | refine Below.setCell ?_ (by (try simp) <;> omega) _ | refine Below.alloc ?_ (by (try simp) <;> omega) _ | refine below_drewN ?_ | refine Below.drew ?_))⟩
    · replace v1 := validB_false v1
      clear h
      go_enter Try.func84, Try.ntmps84
      go_wp2_with (first | (go_at_call 43; refine (rValid_any _ _).mono ?_; rintro e w' ⟨rfl, hb2⟩; first | ((first | replace hb := below_next hb2 hb | replace hb := below_next hb2 (below_drewN hb) | replace hb := below_next hb2 (below_alloc hb _) | replace hb := below_next hb2 (below_drewN (below_alloc hb _)) | replace hb := below_next hb2 (below_alloc (below_drewN hb) _) | replace hb := below_next hb2 (below_alloc (below_alloc hb _) _)); clear hb2 hc hf; obtain ⟨hc, hf⟩ := bcell hb) | (have hb := hb2; clear hb2; obtain ⟨hc, hf⟩ := bcell hb)))
      exact bodyPost_ret (v := .agg #[.int .i64 0, .int .i64 0]) (by first | (simp [results, Try.results84, go_sem, hc]; done) | (simp [results, Try.results84, go_sem]; done)) rfl ⟨rfl, by (repeat (first | exact Below.refl _ _ | (refine below_up ?_ hb; clear hb hc hf) | refine Below.setCell ?_ (by (try simp) <;> omega) _ | refine Below.alloc ?_ (by (try simp) <;> omega) _ | refine below_drewN ?_ | refine Below.drew ?_))⟩
theorem Neg_any (a : Iv) (w : World) :
    Calls Try.prog 42 #[ .agg #[.int .i64 a.lo, .int .i64 a.hi] ] w fun e w' => e = .returned (.agg #[.int .i64 (negI a).lo, .int .i64 (negI a).hi]) ∧ Below w.heap.size w w' := by
  by_cases h1 : Valid a
  · have v1 := validB_true h1
    have E := Lib.hid (show negI a = ⟨-a.hi, -a.lo⟩ by unfold negI; rw [when1_yes h1])
    rw [E.out]
    unfold Valid at h1
    go_enter Try.func42, Try.ntmps42
    go_wp2_with (first | (go_at_call 38; refine (Valid_any _ _).mono ?_; rintro e w' ⟨rfl, hb2⟩; first | ((first | replace hb := below_next hb2 hb | replace hb := below_next hb2 (below_drewN hb) | replace hb := below_next hb2 (below_alloc hb _) | replace hb := below_next hb2 (below_drewN (below_alloc hb _)) | replace hb := below_next hb2 (below_alloc (below_drewN hb) _) | replace hb := below_next hb2 (below_alloc (below_alloc hb _) _)); clear hb2 hc hf; obtain ⟨hc, hf⟩ := bcell hb) | (have hb := hb2; clear hb2; obtain ⟨hc, hf⟩ := bcell hb)))
    exact bodyPost_ret (v := .agg #[.int .i64 (-a.hi), .int .i64 (-a.lo)]) (by first | (simp [results, Try.results42, go_sem, hc]; done) | (simp [results, Try.results42, go_sem]; done)) rfl ⟨rfl, by (repeat (first | exact Below.refl _ _ | (refine below_up ?_ hb; clear hb hc hf) | refine Below.setCell ?_ (by (try simp) <;> omega) _ | refine Below.alloc ?_ (by (try simp) <;> omega) _ | refine below_drewN ?_ | refine Below.drew ?_))⟩
  · rw [show negI a = zeroI by unfold negI; rw [when1_no h1]]
    replace h1 := validB_false h1
    go_enter Try.func42, Try.ntmps42
    go_wp2_with (first | (go_at_call 38; refine (Valid_any _ _).mono ?_; rintro e w' ⟨rfl, hb2⟩; first | ((first | replace hb := below_next hb2 hb | replace hb := below_next hb2 (below_drewN hb) | replace hb := below_next hb2 (below_alloc hb _) | replace hb := below_next hb2 (below_drewN (below_alloc hb _)) | replace hb := below_next hb2 (below_alloc (below_drewN hb) _) | replace hb := below_next hb2 (below_alloc (below_alloc hb _) _)); clear hb2 hc hf; obtain ⟨hc, hf⟩ := bcell hb) | (have hb := hb2; clear hb2; obtain ⟨hc, hf⟩ := bcell hb)))
    exact bodyPost_ret (v := .agg #[.int .i64 0, .int .i64 0]) (by first | (simp [results, Try.results42, go_sem, hc]; done) | (simp [results, Try.results42, go_sem]; done)) rfl ⟨rfl, by (repeat (first | exact Below.refl _ _ | (refine below_up ?_ hb; clear hb hc hf) | refine Below.setCell ?_ (by (try simp) <;> omega) _ | refine Below.alloc ?_ (by (try simp) <;> omega) _ | refine below_drewN ?_ | refine Below.drew ?_))⟩
theorem rNeg_any (a : Iv) (w : World) :
    Calls Try.prog 46 #[ .agg #[.int .i64 a.lo, .int .i64 a.hi] ] w fun e w' => e = .returned (.agg #[.int .i64 (negI a).lo, .int .i64 (negI a).hi]) ∧ Below w.heap.size w w' := by
  by_cases h1 : Valid a
  · have v1 := validB_true h1
    have E := Lib.hid (show negI a = ⟨-a.hi, -a.lo⟩ by unfold negI; rw [when1_yes h1])
    rw [E.out]
    unfold Valid at h1
    go_enter Try.func46, Try.ntmps46
    go_wp2_with (first | (go_at_call 43; refine (rValid_any _ _).mono ?_; rintro e w' ⟨rfl, hb2⟩; first | ((first | replace hb := below_next hb2 hb | replace hb := below_next hb2 (below_drewN hb) | replace hb := below_next hb2 (below_alloc hb _) | replace hb := below_next hb2 (below_drewN (below_alloc hb _)) | replace hb := below_next hb2 (below_alloc (below_drewN hb) _) | replace hb := below_next hb2 (below_alloc (below_alloc hb _) _)); clear hb2 hc hf; obtain ⟨hc, hf⟩ := bcell hb) | (have hb := hb2; clear hb2; obtain ⟨hc, hf⟩ := bcell hb)))
    exact bodyPost_ret (v := .agg #[.int .i64 (-a.hi), .int .i64 (-a.lo)]) (by first | (simp [results, Try.results46, go_sem, hc]; done) | (simp [results, Try.results46, go_sem]; done)) rfl ⟨rfl, by (repeat (first | exact Below.refl _ _ | (refine below_up ?_ hb; clear hb hc hf) | refine Below.setCell ?_ (by (try simp) <;> omega) _ | refine Below.alloc ?_ (by (try simp) <;> omega) _ | refine below_drewN ?_ | refine Below.drew ?_))⟩
  · rw [show negI a = zeroI by unfold negI; rw [when1_no h1]]
    replace h1 := validB_false h1
    go_enter Try.func46, Try.ntmps46
    go_wp2_with (first | (go_at_call 43; refine (rValid_any _ _).mono ?_; rintro e w' ⟨rfl, hb2⟩; first | ((first | replace hb := below_next hb2 hb | replace hb := below_next hb2 (below_drewN hb) | replace hb := below_next hb2 (below_alloc hb _) | replace hb := below_next hb2 (below_drewN (below_alloc hb _)) | replace hb := below_next hb2 (below_alloc (below_drewN hb) _) | replace hb := below_next hb2 (below_alloc (below_alloc hb _) _)); clear hb2 hc hf; obtain ⟨hc, hf⟩ := bcell hb) | (have hb := hb2; clear hb2; obtain ⟨hc, hf⟩ := bcell hb)))
    exact bodyPost_ret (v := .agg #[.int .i64 0, .int .i64 0]) (by first | (simp [results, Try.results46, go_sem, hc]; done) | (simp [results, Try.results46, go_sem]; done)) rfl ⟨rfl, by (repeat (first | exact Below.refl _ _ | (refine below_up ?_ hb; clear hb hc hf) | refine Below.setCell ?_ (by (try simp) <;> omega) _ | refine Below.alloc ?_ (by (try simp) <;> omega) _ | refine below_drewN ?_ | refine Below.drew ?_))⟩
end Go.Proofs.Ytdaeacakgpjjgaa
