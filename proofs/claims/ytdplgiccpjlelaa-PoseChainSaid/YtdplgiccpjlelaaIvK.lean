/- Proved: Meet, and the makers of intervals of the statements (Round, Interval, Part), return what is said of them, and turn nothing that was there before. Conditions: as each theorem states. -/
import Derived.Test.YtdplgiccpjlelaaIvH
namespace Go.Proofs.Ytdplgiccpjlelaa
open Go.RowKit

theorem meetB_true {a b : Iv} (h : meets a b) : meetB a b = true := decide_eq_true h
theorem meetB_false {a b : Iv} (h : ¬meets a b) : meetB a b = false := decide_eq_false h
theorem rMeet_any (a b : Iv) (w : World) :
    Calls Try.prog 31 #[ .agg #[.int .i64 a.lo, .int .i64 a.hi], .agg #[.int .i64 b.lo, .int .i64 b.hi] ] w fun e w' => e = .returned (.tuple #[.agg #[.int .i64 (metI a b).lo, .int .i64 (metI a b).hi], .bool (meetB a b)]) ∧ Below w.heap.size w w' := by
  by_cases h : meets a b
  · rw [meetB_true h, show metI a b = ⟨max a.lo b.lo, min a.hi b.hi⟩ from if_pos h]
    obtain ⟨⟨h1, h2⟩, h3⟩ := h
    have v1 := validB_true h1
    have v2 := validB_true h2
    unfold Valid at h1 h2
    go_enter Try.func31, Try.ntmps31
    go_wp2_with (first | (go_at_call 51; refine (rValid_any _ _).mono ?_; rintro e w' ⟨rfl, hb2⟩; first | ((first | replace hb := below_next hb2 hb | replace hb := below_next hb2 (below_drewN hb) | replace hb := below_next hb2 (below_alloc hb _) | replace hb := below_next hb2 (below_drewN (below_alloc hb _)) | replace hb := below_next hb2 (below_alloc (below_drewN hb) _) | replace hb := below_next hb2 (below_alloc (below_alloc hb _) _)); clear hb2 hc hf; obtain ⟨hc, hf⟩ := bcell hb) | (have hb := hb2; clear hb2; obtain ⟨hc, hf⟩ := bcell hb)))
    exact bodyPost_ret (v := .tuple #[.agg #[.int .i64 (max a.lo b.lo), .int .i64 (min a.hi b.hi)], .bool true]) (by first | (simp [results, Try.results31, go_sem, hc]; done) | (simp [results, Try.results31, go_sem]; done)) rfl ⟨rfl, by (repeat (first | exact Below.refl _ _ | (refine below_up ?_ hb; clear hb hc hf) | refine Below.setCell ?_ (by (try simp) <;> omega) _ | refine Below.alloc ?_ (by (try simp) <;> omega) _ | refine below_drewN ?_ | refine Below.drew ?_))⟩
  · rw [meetB_false h, show metI a b = zeroI from if_neg h]
    by_cases h0 : Valid a ∧ Valid b
    · have h3 : min a.hi b.hi < max a.lo b.lo := Int.not_le.1 fun h3 => h ⟨h0, h3⟩
      obtain ⟨h1, h2⟩ := h0
      have v1 := validB_true h1
      have v2 := validB_true h2
      unfold Valid at h1 h2
      have h4 : decide (min a.hi b.hi < max a.lo b.lo) = true := decide_eq_true h3
      clear h
      go_enter Try.func31, Try.ntmps31
      go_wp2_with (first | (go_at_call 51; refine (rValid_any _ _).mono ?_; rintro e w' ⟨rfl, hb2⟩; first | ((first | replace hb := below_next hb2 hb | replace hb := below_next hb2 (below_drewN hb) | replace hb := below_next hb2 (below_alloc hb _) | replace hb := below_next hb2 (below_drewN (below_alloc hb _)) | replace hb := below_next hb2 (below_alloc (below_drewN hb) _) | replace hb := below_next hb2 (below_alloc (below_alloc hb _) _)); clear hb2 hc hf; obtain ⟨hc, hf⟩ := bcell hb) | (have hb := hb2; clear hb2; obtain ⟨hc, hf⟩ := bcell hb)))
      all_goals exact bodyPost_ret (v := .tuple #[.agg #[.int .i64 0, .int .i64 0], .bool false]) (by first | (simp [results, Try.results31, go_sem, hc]; done) | (simp [results, Try.results31, go_sem]; done)) rfl ⟨rfl, by (repeat (first | exact Below.refl _ _ | (refine below_up ?_ hb; clear hb hc hf) | refine Below.setCell ?_ (by (try simp) <;> omega) _ | refine Below.alloc ?_ (by (try simp) <;> omega) _ | refine below_drewN ?_ | refine Below.drew ?_))⟩
    · by_cases v1 : Valid a
      · have v2 := validB_false (a := b) fun hb => h0 ⟨v1, hb⟩
        replace v1 := validB_true v1
        clear h h0
        go_enter Try.func31, Try.ntmps31
        go_wp2_with (first | (go_at_call 51; refine (rValid_any _ _).mono ?_; rintro e w' ⟨rfl, hb2⟩; first | ((first | replace hb := below_next hb2 hb | replace hb := below_next hb2 (below_drewN hb) | replace hb := below_next hb2 (below_alloc hb _) | replace hb := below_next hb2 (below_drewN (below_alloc hb _)) | replace hb := below_next hb2 (below_alloc (below_drewN hb) _) | replace hb := below_next hb2 (below_alloc (below_alloc hb _) _)); clear hb2 hc hf; obtain ⟨hc, hf⟩ := bcell hb) | (have hb := hb2; clear hb2; obtain ⟨hc, hf⟩ := bcell hb)))
        exact bodyPost_ret (v := .tuple #[.agg #[.int .i64 0, .int .i64 0], .bool false]) (by first | (simp [results, Try.results31, go_sem, hc]; done) | (simp [results, Try.results31, go_sem]; done)) rfl ⟨rfl, by (repeat (first | exact Below.refl _ _ | (refine below_up ?_ hb; clear hb hc hf) | refine Below.setCell ?_ (by (try simp) <;> omega) _ | refine Below.alloc ?_ (by (try simp) <;> omega) _ | refine below_drewN ?_ | refine Below.drew ?_))⟩
      · replace v1 := validB_false v1
        clear h h0
        go_enter Try.func31, Try.ntmps31
        go_wp2_with (first | (go_at_call 51; refine (rValid_any _ _).mono ?_; rintro e w' ⟨rfl, hb2⟩; first | ((first | replace hb := below_next hb2 hb | replace hb := below_next hb2 (below_drewN hb) | replace hb := below_next hb2 (below_alloc hb _) | replace hb := below_next hb2 (below_drewN (below_alloc hb _)) | replace hb := below_next hb2 (below_alloc (below_drewN hb) _) | replace hb := below_next hb2 (below_alloc (below_alloc hb _) _)); clear hb2 hc hf; obtain ⟨hc, hf⟩ := bcell hb) | (have hb := hb2; clear hb2; obtain ⟨hc, hf⟩ := bcell hb)))
        exact bodyPost_ret (v := .tuple #[.agg #[.int .i64 0, .int .i64 0], .bool false]) (by first | (simp [results, Try.results31, go_sem, hc]; done) | (simp [results, Try.results31, go_sem]; done)) rfl ⟨rfl, by (repeat (first | exact Below.refl _ _ | (refine below_up ?_ hb; clear hb hc hf) | refine Below.setCell ?_ (by (try simp) <;> omega) _ | refine Below.alloc ?_ (by (try simp) <;> omega) _ | refine below_drewN ?_ | refine Below.drew ?_))⟩

/-! The makers. -/
theorem Round_any (n k : Int) (w : World) (hk : 0 < k) (hk2 : k ≤ 9223372036854775807) (n1 : -9223372036854775808 ≤ n) (n2 : n ≤ 9223372036854775807) :
    Calls Try.prog 12 #[ .int .i64 n, .int .i64 k ] w fun e w' => e = .returned (.int .i64 (n % k)) ∧ w = w' := by
  have hm := Int.emod_nonneg n (show k ≠ 0 by omega)
  have hl := Int.emod_lt_of_pos n hk
  by_cases h0 : 0 ≤ n
  · go_enter Try.func12, Try.ntmps12
    go_wp2
    go_ret
    exact ⟨rfl, rfl⟩
  · by_cases ht : n.tmod k < 0
    · have E := Lib.hid (show n.tmod k + k = n % k by
        rw [Int.tmod_eq_emod] at ht ⊢
        split at ht
        · omega
        · rw [if_neg (by assumption)]; omega)
      have t1 : 0 ≤ n.tmod k + k := by rw [E.out]; exact hm
      have t2 : n.tmod k + k < k := by rw [E.out]; exact hl
      clear hm hl
      go_enter Try.func12, Try.ntmps12
      go_wp2
      go_ret
      exact ⟨ret_int E.out, rfl⟩
    · have E := Lib.hid (show n.tmod k = n % k by
        rw [Int.tmod_eq_emod] at ht ⊢
        split at ht
        · rw [if_pos (by assumption)]; omega
        · omega)
      clear hm hl
      go_enter Try.func12, Try.ntmps12
      go_wp2
      go_ret
      exact ⟨ret_int E.out, rfl⟩
end Go.Proofs.Ytdplgiccpjlelaa
