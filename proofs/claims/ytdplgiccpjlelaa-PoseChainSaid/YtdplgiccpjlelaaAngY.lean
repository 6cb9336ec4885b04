/- Proved: the developers' sine and cosine of every angle, and whether an angle lies in an interval. Conditions: as each theorem states. -/
import Derived.Test.YtdplgiccpjlelaaAngT
import Derived.Test.YtdplgiccpjlelaaAngX
import Derived.Deep.RegionHeld3
namespace Go.Proofs.Ytdplgiccpjlelaa
open Go.RowKit

theorem tmod_bd (a : Int) : -65536 < a.tmod 65536 ∧ a.tmod 65536 < 65536 := by
  rcases Int.le_total 0 a with h | h
  · rw [Int.tmod_eq_emod_of_nonneg h]; omega
  · have e : a.tmod 65536 = -((-a).tmod 65536) := by rw [Int.neg_tmod, Int.neg_neg]
    rw [e, Int.tmod_eq_emod_of_nonneg (by omega)]; omega
theorem tmod_mod (a : Int) : (a.tmod 65536 + 65536) % 65536 = a % 65536 := by
  rcases Int.le_total 0 a with h | h
  · rw [Int.tmod_eq_emod_of_nonneg h]; omega
  · have e : a.tmod 65536 = -((-a).tmod 65536) := by rw [Int.neg_tmod, Int.neg_neg]
    rw [e, Int.tmod_eq_emod_of_nonneg (by omega)]; omega
theorem tmod_mod2 (a : Int) : a.tmod 65536 % 65536 = a % 65536 := by
  rw [← tmod_mod a]; omega
theorem reduced_any (a : Int) (w : World) :
    Calls Try.prog 87 #[ .int .i64 a ] w fun e w' => e = .returned (.int .i64 (a % 65536)) ∧ w = w' := by
  obtain ⟨h1, h2⟩ := tmod_bd a
  have E := Lib.hid (tmod_mod a)
  by_cases h : 0 ≤ a
  · have E2 := Lib.hid (Int.tmod_eq_emod_of_nonneg (b := 65536) h)
    rw [E2.out] at h1 h2
    go_enter Try.func87, Try.ntmps87
    go_wp2
    go_ret
    exact ⟨ret_int (by have := E.out; rw [E2.out] at this; exact this), rfl⟩
  · go_enter Try.func87, Try.ntmps87
    go_wp2
    go_ret
    exact ⟨ret_int (tmod_mod2 a), rfl⟩
theorem rising_any (r : Int) (w : World) (h0 : 0 ≤ r) (h1 : r ≤ 16384) :
    Calls Try.prog 88 #[ .int .i64 r ] w fun e w' => e = .returned (.agg #[.int .i64 (qZ r).lo, .int .i64 (qZ r).hi]) ∧ Below w.heap.size w w' := by
  by_cases h : r ≤ 8192
  · have E := Lib.hid (show qZ r = sineZ r by unfold qZ; rw [if_pos h])
    rw [E.out]
    go_enter Try.func88, Try.ntmps88
    go_wp2_with (first | (go_at_call 95; refine (SineZ_any _ _ (by omega) (by omega)).mono ?_; rintro e w' ⟨rfl, hb2⟩; first | ((first | replace hb := below_next hb2 hb | replace hb := below_next hb2 (below_drewN hb) | replace hb := below_next hb2 (below_alloc hb _) | replace hb := below_next hb2 (below_drewN (below_alloc hb _)) | replace hb := below_next hb2 (below_alloc (below_drewN hb) _) | replace hb := below_next hb2 (below_alloc (below_alloc hb _) _)); clear hb2 hc hf; obtain ⟨hc, hf⟩ := bcell hb) | (have hb := hb2; clear hb2; obtain ⟨hc, hf⟩ := bcell hb)))
    exact bodyPost_ret (v := .agg #[.int .i64 (sineZ r).lo, .int .i64 (sineZ r).hi]) (by first | (simp [results, Try.results88, go_sem, hc]; done) | (simp [results, Try.results88, go_sem]; done)) rfl ⟨rfl, by (repeat (first | exact Below.refl _ _ | (refine below_up ?_ hb; clear hb hc hf) | refine Below.setCell ?_ (by (try simp) <;> omega) _ | refine Below.alloc ?_ (by (try simp) <;> omega) _ | refine below_drewN ?_ | refine Below.drew ?_))⟩
  · have E := Lib.hid (show qZ r = cosineZ (16384 - r) by unfold qZ; rw [if_neg h])
    rw [E.out]
    go_enter Try.func88, Try.ntmps88
    go_wp2_with (first | (go_at_call 96; refine (CosineZ_any _ _ (by omega) (by omega)).mono ?_; rintro e w' ⟨rfl, hb2⟩; first | ((first | replace hb := below_next hb2 hb | replace hb := below_next hb2 (below_drewN hb) | replace hb := below_next hb2 (below_alloc hb _) | replace hb := below_next hb2 (below_drewN (below_alloc hb _)) | replace hb := below_next hb2 (below_alloc (below_drewN hb) _) | replace hb := below_next hb2 (below_alloc (below_alloc hb _) _)); clear hb2 hc hf; obtain ⟨hc, hf⟩ := bcell hb) | (have hb := hb2; clear hb2; obtain ⟨hc, hf⟩ := bcell hb)))
    exact bodyPost_ret (v := .agg #[.int .i64 (cosineZ (16384 - r)).lo, .int .i64 (cosineZ (16384 - r)).hi]) (by first | (simp [results, Try.results88, go_sem, hc]; done) | (simp [results, Try.results88, go_sem]; done)) rfl ⟨rfl, by (repeat (first | exact Below.refl _ _ | (refine below_up ?_ hb; clear hb hc hf) | refine Below.setCell ?_ (by (try simp) <;> omega) _ | refine Below.alloc ?_ (by (try simp) <;> omega) _ | refine below_drewN ?_ | refine Below.drew ?_))⟩
theorem Sin_any (a : Int) (w : World) :
    Calls Try.prog 74 #[ .int .i64 a ] w fun e w' => e = .returned (.agg #[.int .i64 (sinA a).lo, .int .i64 (sinA a).hi]) ∧ Below w.heap.size w w' := by
  obtain ⟨m, hm⟩ : ∃ m, a % 65536 = m := ⟨_, rfl⟩
  have m0 : 0 ≤ m := by omega
  have m1 : m < 65536 := by omega
  have E := Lib.hid (show sinA a = turnZ m by unfold sinA; rw [hm])
  rw [E.out]
  clear E
  by_cases h0 : m < 16384
  · have E := Lib.hid (show turnZ m = qZ m by unfold turnZ; rw [if_pos h0])
    rw [E.out]
    have hq : m / 16384 = 0 := by omega
    have hr : m % 16384 = m := by omega
    go_enter Try.func74, Try.ntmps74
    go_wp2_with (first | (go_at_call 87; refine (reduced_any _ _).mono ?_; rintro e w' ⟨rfl, rfl⟩) | (go_at_call 88; refine (rising_any _ _ (by omega) (by omega)).mono ?_; rintro e w' ⟨rfl, hb2⟩; first | ((first | replace hb := below_next hb2 hb | replace hb := below_next hb2 (below_drewN hb) | replace hb := below_next hb2 (below_alloc hb _) | replace hb := below_next hb2 (below_drewN (below_alloc hb _)) | replace hb := below_next hb2 (below_alloc (below_drewN hb) _) | replace hb := below_next hb2 (below_alloc (below_alloc hb _) _)); clear hb2 hc hf; obtain ⟨hc, hf⟩ := bcell hb) | (have hb := hb2; clear hb2; obtain ⟨hc, hf⟩ := bcell hb)))
    exact bodyPost_ret (v := .agg #[.int .i64 (qZ m).lo, .int .i64 (qZ m).hi]) (by first | (simp [results, Try.results74, go_sem, hc]; done) | (simp [results, Try.results74, go_sem]; done)) rfl ⟨rfl, by (repeat (first | exact Below.refl _ _ | (refine below_up ?_ hb; clear hb hc hf) | refine Below.setCell ?_ (by (try simp) <;> omega) _ | refine Below.alloc ?_ (by (try simp) <;> omega) _ | refine below_drewN ?_ | refine Below.drew ?_))⟩
  by_cases h1 : m < 32768
  · have E := Lib.hid (show turnZ m = qZ (16384 - (m - 16384)) by unfold turnZ; rw [if_neg h0, if_pos h1]; congr 1; omega)
    rw [E.out]
    have hq : m / 16384 = 1 := by omega
    have hr : m % 16384 = m - 16384 := by omega
    go_enter Try.func74, Try.ntmps74
    go_wp2_with (first | (go_at_call 87; refine (reduced_any _ _).mono ?_; rintro e w' ⟨rfl, rfl⟩) | (go_at_call 88; refine (rising_any _ _ (by omega) (by omega)).mono ?_; rintro e w' ⟨rfl, hb2⟩; first | ((first | replace hb := below_next hb2 hb | replace hb := below_next hb2 (below_drewN hb) | replace hb := below_next hb2 (below_alloc hb _) | replace hb := below_next hb2 (below_drewN (below_alloc hb _)) | replace hb := below_next hb2 (below_alloc (below_drewN hb) _) | replace hb := below_next hb2 (below_alloc (below_alloc hb _) _)); clear hb2 hc hf; obtain ⟨hc, hf⟩ := bcell hb) | (have hb := hb2; clear hb2; obtain ⟨hc, hf⟩ := bcell hb)))
    exact bodyPost_ret (v := .agg #[.int .i64 (qZ (16384 - (m - 16384))).lo, .int .i64 (qZ (16384 - (m - 16384))).hi]) (by first | (simp [results, Try.results74, go_sem, hc]; done) | (simp [results, Try.results74, go_sem]; done)) rfl ⟨rfl, by (repeat (first | exact Below.refl _ _ | (refine below_up ?_ hb; clear hb hc hf) | refine Below.setCell ?_ (by (try simp) <;> omega) _ | refine Below.alloc ?_ (by (try simp) <;> omega) _ | refine below_drewN ?_ | refine Below.drew ?_))⟩
  by_cases h2 : m < 49152
  · have E := Lib.hid (show turnZ m = negI (qZ (m - 32768)) by unfold turnZ; rw [if_neg h0, if_neg h1, if_pos h2])
    rw [E.out]
    have hq : m / 16384 = 2 := by omega
    have hr : m % 16384 = m - 32768 := by omega
    go_enter Try.func74, Try.ntmps74
    go_wp2_with (first | (go_at_call 87; refine (reduced_any _ _).mono ?_; rintro e w' ⟨rfl, rfl⟩) | (go_at_call 88; refine (rising_any _ _ (by omega) (by omega)).mono ?_; rintro e w' ⟨rfl, hb2⟩; first | ((first | replace hb := below_next hb2 hb | replace hb := below_next hb2 (below_drewN hb) | replace hb := below_next hb2 (below_alloc hb _) | replace hb := below_next hb2 (below_drewN (below_alloc hb _)) | replace hb := below_next hb2 (below_alloc (below_drewN hb) _) | replace hb := below_next hb2 (below_alloc (below_alloc hb _) _)); clear hb2 hc hf; obtain ⟨hc, hf⟩ := bcell hb) | (have hb := hb2; clear hb2; obtain ⟨hc, hf⟩ := bcell hb)) | (go_at_call 58; refine (Neg_any _ _).mono ?_; rintro e w' ⟨rfl, hb2⟩; first | ((first | replace hb := below_next hb2 hb | replace hb := below_next hb2 (below_drewN hb) | replace hb := below_next hb2 (below_alloc hb _) | replace hb := below_next hb2 (below_drewN (below_alloc hb _)) | replace hb := below_next hb2 (below_alloc (below_drewN hb) _) | replace hb := below_next hb2 (below_alloc (below_alloc hb _) _)); clear hb2 hc hf; obtain ⟨hc, hf⟩ := bcell hb) | (have hb := hb2; clear hb2; obtain ⟨hc, hf⟩ := bcell hb)))
    exact bodyPost_ret (v := .agg #[.int .i64 (negI (qZ (m - 32768))).lo, .int .i64 (negI (qZ (m - 32768))).hi]) (by first | (simp [results, Try.results74, go_sem, hc]; done) | (simp [results, Try.results74, go_sem]; done)) rfl ⟨rfl, by (repeat (first | exact Below.refl _ _ | (refine below_up ?_ hb; clear hb hc hf) | refine Below.setCell ?_ (by (try simp) <;> omega) _ | refine Below.alloc ?_ (by (try simp) <;> omega) _ | refine below_drewN ?_ | refine Below.drew ?_))⟩
  have E := Lib.hid (show turnZ m = negI (qZ (16384 - (m - 49152))) by unfold turnZ; rw [if_neg h0, if_neg h1, if_neg h2]; congr 2; omega)
  rw [E.out]
  have hq : m / 16384 = 3 := by omega
  have hr : m % 16384 = m - 49152 := by omega
  go_enter Try.func74, Try.ntmps74
  go_wp2_with (first | (go_at_call 87; refine (reduced_any _ _).mono ?_; rintro e w' ⟨rfl, rfl⟩) | (go_at_call 88; refine (rising_any _ _ (by omega) (by omega)).mono ?_; rintro e w' ⟨rfl, hb2⟩; first | ((first | replace hb := below_next hb2 hb | replace hb := below_next hb2 (below_drewN hb) | replace hb := below_next hb2 (below_alloc hb _) | replace hb := below_next hb2 (below_drewN (below_alloc hb _)) | replace hb := below_next hb2 (below_alloc (below_drewN hb) _) | replace hb := below_next hb2 (below_alloc (below_alloc hb _) _)); clear hb2 hc hf; obtain ⟨hc, hf⟩ := bcell hb) | (have hb := hb2; clear hb2; obtain ⟨hc, hf⟩ := bcell hb)) | (go_at_call 58; refine (Neg_any _ _).mono ?_; rintro e w' ⟨rfl, hb2⟩; first | ((first | replace hb := below_next hb2 hb | replace hb := below_next hb2 (below_drewN hb) | replace hb := below_next hb2 (below_alloc hb _) | replace hb := below_next hb2 (below_drewN (below_alloc hb _)) | replace hb := below_next hb2 (below_alloc (below_drewN hb) _) | replace hb := below_next hb2 (below_alloc (below_alloc hb _) _)); clear hb2 hc hf; obtain ⟨hc, hf⟩ := bcell hb) | (have hb := hb2; clear hb2; obtain ⟨hc, hf⟩ := bcell hb)))
  exact bodyPost_ret (v := .agg #[.int .i64 (negI (qZ (16384 - (m - 49152)))).lo, .int .i64 (negI (qZ (16384 - (m - 49152)))).hi]) (by first | (simp [results, Try.results74, go_sem, hc]; done) | (simp [results, Try.results74, go_sem]; done)) rfl ⟨rfl, by (repeat (first | exact Below.refl _ _ | (refine below_up ?_ hb; clear hb hc hf) | refine Below.setCell ?_ (by (try simp) <;> omega) _ | refine Below.alloc ?_ (by (try simp) <;> omega) _ | refine below_drewN ?_ | refine Below.drew ?_))⟩
theorem Cos_any (a : Int) (w : World) :
    Calls Try.prog 73 #[ .int .i64 a ] w fun e w' => e = .returned (.agg #[.int .i64 (cosA a).lo, .int .i64 (cosA a).hi]) ∧ Below w.heap.size w w' := by
  obtain ⟨m, hm⟩ : ∃ m, a % 65536 = m := ⟨_, rfl⟩
  have m0 : 0 ≤ m := by omega
  have m1 : m < 65536 := by omega
  have E := Lib.hid (show cosA a = sinA (m + 16384) by unfold cosA; rw [hm])
  rw [E.out]
  clear E
  go_enter Try.func73, Try.ntmps73
  go_wp2_with (first | (go_at_call 87; refine (reduced_any _ _).mono ?_; rintro e w' ⟨rfl, rfl⟩) | (go_at_call 74; refine (Sin_any _ _).mono ?_; rintro e w' ⟨rfl, hb2⟩; first | ((first | replace hb := below_next hb2 hb | replace hb := below_next hb2 (below_drewN hb) | replace hb := below_next hb2 (below_alloc hb _) | replace hb := below_next hb2 (below_drewN (below_alloc hb _)) | replace hb := below_next hb2 (below_alloc (below_drewN hb) _) | replace hb := below_next hb2 (below_alloc (below_alloc hb _) _)); clear hb2 hc hf; obtain ⟨hc, hf⟩ := bcell hb) | (have hb := hb2; clear hb2; obtain ⟨hc, hf⟩ := bcell hb)))
  exact bodyPost_ret (v := .agg #[.int .i64 (sinA (m + 16384)).lo, .int .i64 (sinA (m + 16384)).hi]) (by first | (simp [results, Try.results73, go_sem, hc]; done) | (simp [results, Try.results73, go_sem]; done)) rfl ⟨rfl, by (repeat (first | exact Below.refl _ _ | (refine below_up ?_ hb; clear hb hc hf) | refine Below.setCell ?_ (by (try simp) <;> omega) _ | refine Below.alloc ?_ (by (try simp) <;> omega) _ | refine below_drewN ?_ | refine Below.drew ?_))⟩
set_option linter.unusedSimpArgs false in
set_option maxRecDepth 100000 in
theorem meets_any (a : Iv) (c : Int) (w : World) (hv : Valid a) (c0 : 0 ≤ c) (c1 : c ≤ 65536) :
    Calls Try.prog 86 #[ .agg #[.int .i64 a.lo, .int .i64 a.hi], .int .i64 c ] w fun e w' => e = .returned (.bool (decide (Hits a c))) ∧ Below w.heap.size w w' := by
  obtain ⟨v0, v1, v2⟩ := hv
  have x1 := IntWalk.i64_in (c - a.lo) (by omega)
  have x2 := IntWalk.i64_in (a.lo + (c - a.lo) % 65536) (by omega)
  have E := Lib.hid (show decide (a.lo + (c - a.lo) % 65536 ≤ a.hi) = decide (Hits a c) from rfl)
  go_enter Try.func86, Try.ntmps86
  go_wp2_with fail
  refine wp_region_held_drew (S := (fun w1 => w1.cell? ⟨w.heap.size, 0, none⟩ = some (.int .i64 a.lo) ∧ w1.cell? ⟨w.heap.size, 1, none⟩ = some (.int .i64 a.hi))) (by kernel_rfl) ?_ (fun hHeld => ?_)
  focus (first | assumption | exact ⟨by go_simp, by go_simp⟩)
  refine wpAnyH_take (i := 0) (v := ?_) rfl (by kernel_rfl) (by kernel_rfl) (by kernel_rfl) (fun _ _ _ h => h) (Or.inl ⟨by rfl, ?_⟩) (by assumption) ?_; rotate_left; (focus (intro w hSw; (try dsimp only at hSw); go_simp; try with_reducible rfl)); (try simp only [Act.put, List.getElem_toArray, List.getElem_cons_succ, List.getElem_cons_zero, List.setIfInBounds_toArray, List.set_cons_zero, List.set_cons_succ])
  refine wpAnyH_take (i := 1) (v := ?_) rfl (by kernel_rfl) (by kernel_rfl) (by kernel_rfl) (fun _ _ _ h => h) (Or.inl ⟨by rfl, ?_⟩) (by assumption) ?_; rotate_left; (focus (intro w hSw; (try dsimp only at hSw); go_simp; try with_reducible rfl)); (try simp only [Act.put, List.getElem_toArray, List.getElem_cons_succ, List.getElem_cons_zero, List.setIfInBounds_toArray, List.set_cons_zero, List.set_cons_succ])
  refine wpAnyH_take (i := 2) (v := ?_) rfl (by kernel_rfl) (by kernel_rfl) (by kernel_rfl) (fun _ _ _ h => h) (Or.inl ⟨by rfl, ?_⟩) (by assumption) ?_; rotate_left; (focus (intro w hSw; (try dsimp only at hSw); go_simp; try with_reducible rfl)); (try simp only [Act.put, List.getElem_toArray, List.getElem_cons_succ, List.getElem_cons_zero, List.setIfInBounds_toArray, List.set_cons_zero, List.set_cons_succ])
  refine wpAnyH_take (i := 3) (v := ?_) rfl (by kernel_rfl) (by kernel_rfl) (by kernel_rfl) (fun _ _ _ h => h) (Or.inl ⟨by rfl, ?_⟩) (by assumption) ?_; rotate_left; (focus (intro w hSw; (try dsimp only at hSw); go_simp; try with_reducible rfl)); (try simp only [Act.put, List.getElem_toArray, List.getElem_cons_succ, List.getElem_cons_zero, List.setIfInBounds_toArray, List.set_cons_zero, List.set_cons_succ])
  refine wpAnyH_take (i := 4) (v := ?_) rfl (by kernel_rfl) (by kernel_rfl) (by kernel_rfl) (fun _ _ _ h => h) (Or.inl ⟨by rfl, ?_⟩) (by assumption) ?_; rotate_left; (focus (intro w hSw; (try dsimp only at hSw); go_simp; try with_reducible rfl)); (try simp only [Act.put, List.getElem_toArray, List.getElem_cons_succ, List.getElem_cons_zero, List.setIfInBounds_toArray, List.set_cons_zero, List.set_cons_succ])
  refine wpAnyH_take (i := 5) (v := ?_) rfl (by kernel_rfl) (by kernel_rfl) (by kernel_rfl) (fun _ _ _ h => h) (Or.inl ⟨by rfl, ?_⟩) (by assumption) ?_; rotate_left; (focus (intro w hSw; (try dsimp only at hSw); go_simp; try with_reducible rfl)); (try simp only [Act.put, List.getElem_toArray, List.getElem_cons_succ, List.getElem_cons_zero, List.setIfInBounds_toArray, List.set_cons_zero, List.set_cons_succ])
  refine wpAnyH_ready (rs := [6]) (by kernel_rfl) (by simp) (AllReadyH.cons rfl (fun K hK => ?_) AllReadyH.nil); go_simp; ((go_at_call 87; refine (reduced_any _ _).mono ?_; rintro e w' ⟨rfl, rfl⟩)); go_wp2_with fail; refine hK.out _ _ ?_ (fun hHeld => ?_); (focus (first | assumption | exact ⟨by go_simp, by go_simp⟩)); clear hK K; (try simp only [Act.put, List.getElem_toArray, List.getElem_cons_succ, List.getElem_cons_zero, List.setIfInBounds_toArray, List.set_cons_zero, List.set_cons_succ])
  refine wpAnyH_take (i := 7) (v := ?_) rfl (by kernel_rfl) (by kernel_rfl) (by kernel_rfl) (fun _ _ _ h => h) (Or.inl ⟨by rfl, ?_⟩) (by assumption) ?_; rotate_left; (focus (intro w hSw; (try dsimp only at hSw); go_simp; try with_reducible rfl)); (try simp only [Act.put, List.getElem_toArray, List.getElem_cons_succ, List.getElem_cons_zero, List.setIfInBounds_toArray, List.set_cons_zero, List.set_cons_succ])
  refine wpAnyH_take (i := 8) (v := ?_) rfl (by kernel_rfl) (by kernel_rfl) (by kernel_rfl) (fun _ _ _ h => h) (Or.inl ⟨by rfl, ?_⟩) (by assumption) ?_; rotate_left; (focus (intro w hSw; (try dsimp only at hSw); go_simp; try with_reducible rfl)); (try simp only [Act.put, List.getElem_toArray, List.getElem_cons_succ, List.getElem_cons_zero, List.setIfInBounds_toArray, List.set_cons_zero, List.set_cons_succ])
  refine wpAnyH_done (by kernel_rfl) ?_ _
  go_wp2_with fail
  go_ret
  exact ⟨ret_bool E.out, ((Below.refl _ _).alloc (Nat.le_refl _) _).drew⟩
end Go.Proofs.Ytdplgiccpjlelaa
