/- Proved: statements of layer 3 return true: circle. Conditions: the arguments are of their types. -/
import Derived.Test.YtfoffkhmeeibhaaAngL0
import Derived.Deep.RegionHeld3
import Derived.Deep.DeepCutAuto
namespace Go.Proofs.Ytfoffkhmeeibhaa
open Go.RowKit

theorem cos_range4 (a : Int) : -65536 ≤ (cosA a).lo ∧ (cosA a).lo ≤ (cosA a).hi ∧ (cosA a).hi ≤ 65536 ∧ (cosA a).hi ≤ (cosA a).lo + 2 := by rw [cosA_eq]; exact sin_range _
theorem cos_valid4 (a : Int) : Valid (cosA a) := by rw [cosA_eq]; exact sin_valid _
set_option linter.unusedSimpArgs false in
set_option linter.unusedVariables false in
set_option maxRecDepth 100000 in
set_option maxHeartbeats 12800000 in
theorem AngleCircle_any (a : Int) (w : World)  :
    Calls Try.prog 6 #[ .int .i64 a ] w fun e w' => e = .returned (.bool true) ∧ Below w.heap.size w w' := by
  have e1 := hasB_true (circle a)
  obtain ⟨r1, r2, r3, r4⟩ := sin_range a
  obtain ⟨r5, r6, r7, r8⟩ := cos_range4 a
  have e2 : withinB (sinA a) ⟨-65536, 65536⟩ = true := withinB_true ⟨⟨sin_valid a, by decide⟩, r1, r3⟩
  have e3 : withinB (cosA a) ⟨-65536, 65536⟩ = true := withinB_true ⟨⟨cos_valid4 a, by decide⟩, r5, r7⟩
  go_enter Try.func6, Try.ntmps6
  go_wp2_with fail
  refine (Sin_any _ _).mono ?_
  rintro e w1 ⟨rfl, hb1⟩
  go_wp2_with fail
  refine (Cos_any _ _).mono ?_
  rintro e w2 ⟨rfl, hb2⟩
  obtain ⟨V, hV⟩ : ∃ V : World, V = (w2.alloc (.cells #[.int .i64 (sinA a).lo, .int .i64 (sinA a).hi] 25)).alloc (.cells #[.int .i64 (cosA a).lo, .int .i64 (cosA a).hi] 25) := ⟨_, rfl⟩
  have q : w2.heap.size + 1 < V.heap.size := by rw [hV]; simp
  have s1 := Lib.hid (show IvAt V w2.heap.size (sinA a) from by rw [hV]; exact (IvAt.new _ _).alloc _)
  have s2 := Lib.hid (show IvAt V (w2.heap.size + 1) (cosA a) from by rw [hV]; exact IvAt.at_new (by simp))
  have B := Lib.hid (show Below w.heap.size w V from by rw [hV]; exact below_alloc (below_alloc (below_next hb2 hb1) _) _)
  clear hb1 hb2
  go_wp2_with fail
  rw [← hV]
  clear hV
  generalize w2.heap.size = n at *
  have g0 : ∀ w3 : World, Below V.heap.size V w3 → w3.cell? ⟨n, 0, none⟩ = some (.int .i64 (sinA a).lo) := fun w3 h => IvAt.c0 (x := sinA a) (s1.out.below h)
  have g1 : ∀ w3 : World, Below V.heap.size V w3 → w3.cell? ⟨n, 1, none⟩ = some (.int .i64 (sinA a).hi) := fun w3 h => IvAt.c1 (x := sinA a) (s1.out.below h)
  have k0 : ∀ w3 : World, Below V.heap.size V w3 → w3.cell? ⟨n + 1, 0, none⟩ = some (.int .i64 (cosA a).lo) := fun w3 h => IvAt.c0 (x := cosA a) (s2.out.below h)
  have k1 : ∀ w3 : World, Below V.heap.size V w3 → w3.cell? ⟨n + 1, 1, none⟩ = some (.int .i64 (cosA a).hi) := fun w3 h => IvAt.c1 (x := cosA a) (s2.out.below h)
  go_cut [5] (fun v wx => ∃ m, v = .pointer (some ⟨m, 0, none⟩) ∧ Below V.heap.size V wx ∧ IvAt wx m (addI (sqrI (sinA a)) (sqrI (cosA a))) ∧ V.heap.size ≤ m)
  case first =>
    refine wp_region_held_drew (S := (fun w3 => Below V.heap.size V w3)) (by kernel_rfl) ?_ (fun hHeld => ?_)
    focus (with_reducible first | assumption | exact (Below.refl _ _).drew | exact hs | exact below_alloc hHeld _ | exact (below_alloc (Below.refl _ _) _).drew | exact below_alloc (by assumption) _ | exact Below.setCell (Below.setCell hHeld (by dsimp only; omega) _) (by dsimp only; omega) _)
    refine wpAnyH_take (i := 0) (v := ?_) rfl (by kernel_rfl) (by kernel_rfl) (by kernel_rfl) (fun _ _ _ h => h) (Or.inl ⟨by rfl, ?_⟩) (by assumption) ?_; rotate_left; (focus (intro w hSw; (try dsimp only at hSw); go_simp; try with_reducible rfl)); (try simp only [Act.put, List.getElem_toArray, List.getElem_cons_succ, List.getElem_cons_zero, List.setIfInBounds_toArray, List.set_cons_zero, List.set_cons_succ])
    refine wpAnyH_take (i := 2) (v := ?_) rfl (by kernel_rfl) (by kernel_rfl) (by kernel_rfl) (fun _ _ _ h => h) (Or.inl ⟨by rfl, ?_⟩) (by assumption) ?_; rotate_left; (focus (intro w hSw; (try dsimp only at hSw); go_simp; try with_reducible rfl)); (try simp only [Act.put, List.getElem_toArray, List.getElem_cons_succ, List.getElem_cons_zero, List.setIfInBounds_toArray, List.set_cons_zero, List.set_cons_succ])
    refine wpAnyH_ready (rs := [1, 5]) (by kernel_rfl) (by simp) (AllReadyH.cons rfl (fun K hK => ?_) (AllReadyH.cons rfl (fun K hK => ?_) (AllReadyH.nil)))
    · go_simp; ((go_at_call 25; refine (rSquare_any _ _).mono ?_; rintro e w' ⟨rfl, hb2⟩); have hs := below_next hb2 hHeld; have hz := hb2.size; (try simp at hz); (try replace hn := hn.below hb2)); go_wp2_with fail; refine hK.out _ _ ?_ (fun hHeld => ?_); (focus (with_reducible first | assumption | exact (Below.refl _ _).drew | exact hs | exact below_alloc hHeld _ | exact (below_alloc (Below.refl _ _) _).drew | exact below_alloc (by assumption) _ | exact Below.setCell (Below.setCell hHeld (by dsimp only; omega) _) (by dsimp only; omega) _)); clear hK K; (try simp only [Act.put, List.getElem_toArray, List.getElem_cons_succ, List.getElem_cons_zero, List.setIfInBounds_toArray, List.set_cons_zero, List.set_cons_succ])
      refine wpAnyH_ready (rs := [3, 5]) (by kernel_rfl) (by simp) (AllReadyH.cons rfl (fun K hK => ?_) (AllReadyH.cons rfl (fun K hK => ?_) (AllReadyH.nil)))
      · go_simp; ((go_at_call 25; refine (rSquare_any _ _).mono ?_; rintro e w' ⟨rfl, hb2⟩); have hs := below_next hb2 hHeld; have hz := hb2.size; (try simp at hz); (try replace hn := hn.below hb2)); go_wp2_with fail; refine hK.out _ _ ?_ (fun hHeld => ?_); (focus (with_reducible first | assumption | exact (Below.refl _ _).drew | exact hs | exact below_alloc hHeld _ | exact (below_alloc (Below.refl _ _) _).drew | exact below_alloc (by assumption) _ | exact Below.setCell (Below.setCell hHeld (by dsimp only; omega) _) (by dsimp only; omega) _)); clear hK K; (try simp only [Act.put, List.getElem_toArray, List.getElem_cons_succ, List.getElem_cons_zero, List.setIfInBounds_toArray, List.set_cons_zero, List.set_cons_succ])
        refine wpAnyH_ready (rs := [4, 5]) (by kernel_rfl) (by simp) (AllReadyH.cons rfl (fun K hK => ?_) (AllReadyH.cons rfl (fun K hK => ?_) (AllReadyH.nil)))
        · go_simp; ((go_at_call 24; refine (rAdd_any _ _ _).mono ?_; rintro e w' ⟨rfl, hb2⟩); have hs := below_next hb2 hHeld; have hz := hb2.size; (try simp at hz); (try replace hn := hn.below hb2); (try have n0 := hn.c0); (try have n1 := hn.c1); (try have n2 := hn.f0); (try have n3 := hn.f1)); go_wp2_with fail; refine hK.out _ _ ?_ (fun hHeld => ?_); (focus (with_reducible first | assumption | exact (Below.refl _ _).drew | exact hs | exact below_alloc hHeld _ | exact (below_alloc (Below.refl _ _) _).drew | exact below_alloc (by assumption) _ | exact Below.setCell (Below.setCell hHeld (by dsimp only; omega) _) (by dsimp only; omega) _)); clear hK K; (try simp only [Act.put, List.getElem_toArray, List.getElem_cons_succ, List.getElem_cons_zero, List.setIfInBounds_toArray, List.set_cons_zero, List.set_cons_succ])
          refine wpAnyH_ready (rs := [5]) (by kernel_rfl) (by simp) (AllReadyH.cons rfl (fun K hK => ?_) (AllReadyH.nil))
          go_simp; refine hK.out _ _ ?_ (fun hHeld => ?_); (focus (with_reducible first | assumption | exact (Below.refl _ _).drew | exact hs | exact below_alloc hHeld _ | exact (below_alloc (Below.refl _ _) _).drew | exact below_alloc (by assumption) _ | exact Below.setCell (Below.setCell hHeld (by dsimp only; omega) _) (by dsimp only; omega) _)); clear hK K; (try simp only [Act.put, List.getElem_toArray, List.getElem_cons_succ, List.getElem_cons_zero, List.setIfInBounds_toArray, List.set_cons_zero, List.set_cons_succ]); have hn : IvAt (w'.alloc (.cells #[.int .i64 0, .int .i64 0] 25)) w'.heap.size zeroI := heap_alloc_new _ _
          refine wpAnyH_ready (rs := [6]) (by kernel_rfl) (by simp) (AllReadyH.cons rfl (fun K hK => ?_) (AllReadyH.nil))
          go_simp; refine hK.out _ _ ?_ (fun hHeld => ?_); (focus (with_reducible first | assumption | exact (Below.refl _ _).drew | exact hs | exact below_alloc hHeld _ | exact (below_alloc (Below.refl _ _) _).drew | exact below_alloc (by assumption) _ | exact Below.setCell (Below.setCell hHeld (by dsimp only; omega) _) (by dsimp only; omega) _)); clear hK K; (try simp only [Act.put, List.getElem_toArray, List.getElem_cons_succ, List.getElem_cons_zero, List.setIfInBounds_toArray, List.set_cons_zero, List.set_cons_succ])
          refine wpAnyH_done (by kernel_rfl) ?_ _
          go_wp2_with fail
          go_meet
          refine ⟨_, rfl, hHeld, ?_, ?_⟩
          · (with_reducible first | exact hn.set _ | exact IvAt.new _ _)
          · (try simp) <;> omega
        · go_simp; refine hK.out _ _ ?_ (fun hHeld => ?_); (focus (with_reducible first | assumption | exact (Below.refl _ _).drew | exact hs | exact below_alloc hHeld _ | exact (below_alloc (Below.refl _ _) _).drew | exact below_alloc (by assumption) _ | exact Below.setCell (Below.setCell hHeld (by dsimp only; omega) _) (by dsimp only; omega) _)); clear hK K; (try simp only [Act.put, List.getElem_toArray, List.getElem_cons_succ, List.getElem_cons_zero, List.setIfInBounds_toArray, List.set_cons_zero, List.set_cons_succ]); have hn : IvAt (w'.alloc (.cells #[.int .i64 0, .int .i64 0] 25)) w'.heap.size zeroI := heap_alloc_new _ _
          refine wpAnyH_ready (rs := [4]) (by kernel_rfl) (by simp) (AllReadyH.cons rfl (fun K hK => ?_) (AllReadyH.nil))
          go_simp; ((go_at_call 24; refine (rAdd_any _ _ _).mono ?_; rintro e w' ⟨rfl, hb2⟩); have hs := below_next hb2 hHeld; have hz := hb2.size; (try simp at hz); (try replace hn := hn.below hb2); (try have n0 := hn.c0); (try have n1 := hn.c1); (try have n2 := hn.f0); (try have n3 := hn.f1)); go_wp2_with fail; refine hK.out _ _ ?_ (fun hHeld => ?_); (focus (with_reducible first | assumption | exact (Below.refl _ _).drew | exact hs | exact below_alloc hHeld _ | exact (below_alloc (Below.refl _ _) _).drew | exact below_alloc (by assumption) _ | exact Below.setCell (Below.setCell hHeld (by dsimp only; omega) _) (by dsimp only; omega) _)); clear hK K; (try simp only [Act.put, List.getElem_toArray, List.getElem_cons_succ, List.getElem_cons_zero, List.setIfInBounds_toArray, List.set_cons_zero, List.set_cons_succ])
          refine wpAnyH_ready (rs := [6]) (by kernel_rfl) (by simp) (AllReadyH.cons rfl (fun K hK => ?_) (AllReadyH.nil))
          go_simp; refine hK.out _ _ ?_ (fun hHeld => ?_); (focus (with_reducible first | assumption | exact (Below.refl _ _).drew | exact hs | exact below_alloc hHeld _ | exact (below_alloc (Below.refl _ _) _).drew | exact below_alloc (by assumption) _ | exact Below.setCell (Below.setCell hHeld (by dsimp only; omega) _) (by dsimp only; omega) _)); clear hK K; (try simp only [Act.put, List.getElem_toArray, List.getElem_cons_succ, List.getElem_cons_zero, List.setIfInBounds_toArray, List.set_cons_zero, List.set_cons_succ])
          refine wpAnyH_done (by kernel_rfl) ?_ _
          go_wp2_with fail
          go_meet
          refine ⟨_, rfl, hHeld, ?_, ?_⟩
          · (with_reducible first | exact hn.set _ | exact IvAt.new _ _)
          · (try simp) <;> omega
      · go_simp; refine hK.out _ _ ?_ (fun hHeld => ?_); (focus (with_reducible first | assumption | exact (Below.refl _ _).drew | exact hs | exact below_alloc hHeld _ | exact (below_alloc (Below.refl _ _) _).drew | exact below_alloc (by assumption) _ | exact Below.setCell (Below.setCell hHeld (by dsimp only; omega) _) (by dsimp only; omega) _)); clear hK K; (try simp only [Act.put, List.getElem_toArray, List.getElem_cons_succ, List.getElem_cons_zero, List.setIfInBounds_toArray, List.set_cons_zero, List.set_cons_succ]); have hn : IvAt (w'.alloc (.cells #[.int .i64 0, .int .i64 0] 25)) w'.heap.size zeroI := heap_alloc_new _ _
        refine wpAnyH_ready (rs := [3]) (by kernel_rfl) (by simp) (AllReadyH.cons rfl (fun K hK => ?_) (AllReadyH.nil))
        go_simp; ((go_at_call 25; refine (rSquare_any _ _).mono ?_; rintro e w' ⟨rfl, hb2⟩); have hs := below_next hb2 hHeld; have hz := hb2.size; (try simp at hz); (try replace hn := hn.below hb2)); go_wp2_with fail; refine hK.out _ _ ?_ (fun hHeld => ?_); (focus (with_reducible first | assumption | exact (Below.refl _ _).drew | exact hs | exact below_alloc hHeld _ | exact (below_alloc (Below.refl _ _) _).drew | exact below_alloc (by assumption) _ | exact Below.setCell (Below.setCell hHeld (by dsimp only; omega) _) (by dsimp only; omega) _)); clear hK K; (try simp only [Act.put, List.getElem_toArray, List.getElem_cons_succ, List.getElem_cons_zero, List.setIfInBounds_toArray, List.set_cons_zero, List.set_cons_succ])
        refine wpAnyH_ready (rs := [4]) (by kernel_rfl) (by simp) (AllReadyH.cons rfl (fun K hK => ?_) (AllReadyH.nil))
        go_simp; ((go_at_call 24; refine (rAdd_any _ _ _).mono ?_; rintro e w' ⟨rfl, hb2⟩); have hs := below_next hb2 hHeld; have hz := hb2.size; (try simp at hz); (try replace hn := hn.below hb2); (try have n0 := hn.c0); (try have n1 := hn.c1); (try have n2 := hn.f0); (try have n3 := hn.f1)); go_wp2_with fail; refine hK.out _ _ ?_ (fun hHeld => ?_); (focus (with_reducible first | assumption | exact (Below.refl _ _).drew | exact hs | exact below_alloc hHeld _ | exact (below_alloc (Below.refl _ _) _).drew | exact below_alloc (by assumption) _ | exact Below.setCell (Below.setCell hHeld (by dsimp only; omega) _) (by dsimp only; omega) _)); clear hK K; (try simp only [Act.put, List.getElem_toArray, List.getElem_cons_succ, List.getElem_cons_zero, List.setIfInBounds_toArray, List.set_cons_zero, List.set_cons_succ])
        refine wpAnyH_ready (rs := [6]) (by kernel_rfl) (by simp) (AllReadyH.cons rfl (fun K hK => ?_) (AllReadyH.nil))
        go_simp; refine hK.out _ _ ?_ (fun hHeld => ?_); (focus (with_reducible first | assumption | exact (Below.refl _ _).drew | exact hs | exact below_alloc hHeld _ | exact (below_alloc (Below.refl _ _) _).drew | exact below_alloc (by assumption) _ | exact Below.setCell (Below.setCell hHeld (by dsimp only; omega) _) (by dsimp only; omega) _)); clear hK K; (try simp only [Act.put, List.getElem_toArray, List.getElem_cons_succ, List.getElem_cons_zero, List.setIfInBounds_toArray, List.set_cons_zero, List.set_cons_succ])
        refine wpAnyH_done (by kernel_rfl) ?_ _
        go_wp2_with fail
        go_meet
        refine ⟨_, rfl, hHeld, ?_, ?_⟩
        · (with_reducible first | exact hn.set _ | exact IvAt.new _ _)
        · (try simp) <;> omega
    · go_simp; refine hK.out _ _ ?_ (fun hHeld => ?_); (focus (with_reducible first | assumption | exact (Below.refl _ _).drew | exact hs | exact below_alloc hHeld _ | exact (below_alloc (Below.refl _ _) _).drew | exact below_alloc (by assumption) _ | exact Below.setCell (Below.setCell hHeld (by dsimp only; omega) _) (by dsimp only; omega) _)); clear hK K; (try simp only [Act.put, List.getElem_toArray, List.getElem_cons_succ, List.getElem_cons_zero, List.setIfInBounds_toArray, List.set_cons_zero, List.set_cons_succ]); have hn : IvAt (V.alloc (.cells #[.int .i64 0, .int .i64 0] 25)).drew V.heap.size zeroI := heap_alloc_new _ _
      refine wpAnyH_ready (rs := [1]) (by kernel_rfl) (by simp) (AllReadyH.cons rfl (fun K hK => ?_) (AllReadyH.nil))
      go_simp; ((go_at_call 25; refine (rSquare_any _ _).mono ?_; rintro e w' ⟨rfl, hb2⟩); have hs := below_next hb2 hHeld; have hz := hb2.size; (try simp at hz); (try replace hn := hn.below hb2)); go_wp2_with fail; refine hK.out _ _ ?_ (fun hHeld => ?_); (focus (with_reducible first | assumption | exact (Below.refl _ _).drew | exact hs | exact below_alloc hHeld _ | exact (below_alloc (Below.refl _ _) _).drew | exact below_alloc (by assumption) _ | exact Below.setCell (Below.setCell hHeld (by dsimp only; omega) _) (by dsimp only; omega) _)); clear hK K; (try simp only [Act.put, List.getElem_toArray, List.getElem_cons_succ, List.getElem_cons_zero, List.setIfInBounds_toArray, List.set_cons_zero, List.set_cons_succ])
      refine wpAnyH_ready (rs := [3]) (by kernel_rfl) (by simp) (AllReadyH.cons rfl (fun K hK => ?_) (AllReadyH.nil))
      go_simp; ((go_at_call 25; refine (rSquare_any _ _).mono ?_; rintro e w' ⟨rfl, hb2⟩); have hs := below_next hb2 hHeld; have hz := hb2.size; (try simp at hz); (try replace hn := hn.below hb2)); go_wp2_with fail; refine hK.out _ _ ?_ (fun hHeld => ?_); (focus (with_reducible first | assumption | exact (Below.refl _ _).drew | exact hs | exact below_alloc hHeld _ | exact (below_alloc (Below.refl _ _) _).drew | exact below_alloc (by assumption) _ | exact Below.setCell (Below.setCell hHeld (by dsimp only; omega) _) (by dsimp only; omega) _)); clear hK K; (try simp only [Act.put, List.getElem_toArray, List.getElem_cons_succ, List.getElem_cons_zero, List.setIfInBounds_toArray, List.set_cons_zero, List.set_cons_succ])
      refine wpAnyH_ready (rs := [4]) (by kernel_rfl) (by simp) (AllReadyH.cons rfl (fun K hK => ?_) (AllReadyH.nil))
      go_simp; ((go_at_call 24; refine (rAdd_any _ _ _).mono ?_; rintro e w' ⟨rfl, hb2⟩); have hs := below_next hb2 hHeld; have hz := hb2.size; (try simp at hz); (try replace hn := hn.below hb2); (try have n0 := hn.c0); (try have n1 := hn.c1); (try have n2 := hn.f0); (try have n3 := hn.f1)); go_wp2_with fail; refine hK.out _ _ ?_ (fun hHeld => ?_); (focus (with_reducible first | assumption | exact (Below.refl _ _).drew | exact hs | exact below_alloc hHeld _ | exact (below_alloc (Below.refl _ _) _).drew | exact below_alloc (by assumption) _ | exact Below.setCell (Below.setCell hHeld (by dsimp only; omega) _) (by dsimp only; omega) _)); clear hK K; (try simp only [Act.put, List.getElem_toArray, List.getElem_cons_succ, List.getElem_cons_zero, List.setIfInBounds_toArray, List.set_cons_zero, List.set_cons_succ])
      refine wpAnyH_ready (rs := [6]) (by kernel_rfl) (by simp) (AllReadyH.cons rfl (fun K hK => ?_) (AllReadyH.nil))
      go_simp; refine hK.out _ _ ?_ (fun hHeld => ?_); (focus (with_reducible first | assumption | exact (Below.refl _ _).drew | exact hs | exact below_alloc hHeld _ | exact (below_alloc (Below.refl _ _) _).drew | exact below_alloc (by assumption) _ | exact Below.setCell (Below.setCell hHeld (by dsimp only; omega) _) (by dsimp only; omega) _)); clear hK K; (try simp only [Act.put, List.getElem_toArray, List.getElem_cons_succ, List.getElem_cons_zero, List.setIfInBounds_toArray, List.set_cons_zero, List.set_cons_succ])
      refine wpAnyH_done (by kernel_rfl) ?_ _
      go_wp2_with fail
      go_meet
      refine ⟨_, rfl, hHeld, ?_, ?_⟩
      · (with_reducible first | exact hn.set _ | exact IvAt.new _ _)
      · (try simp) <;> omega
  case rest =>
    obtain ⟨m, rfl, hW, hm, hle⟩ := hcut
    clear g0 g1 k0 k1
    obtain ⟨U, hU⟩ : ∃ U : World, U = wc.alloc (.cells #[.int .i64 (-65536), .int .i64 65536] 25) := ⟨_, rfl⟩
    have c1 : U.cell? ⟨n, 0, none⟩ = some (.int .i64 (sinA a).lo) := by rw [hU]; exact ((s1.out.below hW).alloc _).c0
    have c2 : U.cell? ⟨n, 1, none⟩ = some (.int .i64 (sinA a).hi) := by rw [hU]; exact ((s1.out.below hW).alloc _).c1
    have c3 : U.cell? ⟨n + 1, 0, none⟩ = some (.int .i64 (cosA a).lo) := by rw [hU]; exact ((s2.out.below hW).alloc _).c0
    have c4 : U.cell? ⟨n + 1, 1, none⟩ = some (.int .i64 (cosA a).hi) := by rw [hU]; exact ((s2.out.below hW).alloc _).c1
    have c5 : U.cell? ⟨m, 0, none⟩ = some (.int .i64 (addI (sqrI (sinA a)) (sqrI (cosA a))).lo) := by rw [hU]; exact (hm.alloc _).c0
    have c6 : U.cell? ⟨m, 1, none⟩ = some (.int .i64 (addI (sqrI (sinA a)) (sqrI (cosA a))).hi) := by rw [hU]; exact (hm.alloc _).c1
    have c7 : U.cell? ⟨wc.heap.size, 0, none⟩ = some (.int .i64 (-65536)) := by rw [hU]; exact (IvAt.new wc ⟨-65536, 65536⟩).c0
    have c8 : U.cell? ⟨wc.heap.size, 1, none⟩ = some (.int .i64 65536) := by rw [hU]; exact (IvAt.new wc ⟨-65536, 65536⟩).c1
    have z1 : m < wc.heap.size := hm.lt
    have z2 : wc.heap.size < U.heap.size := by rw [hU]; simp
    have B2 := Lib.hid (show Below w.heap.size w U from by rw [hU]; exact below_alloc (below_next hW B.out) _)
    have z3 : n < U.heap.size := by omega
    have z4 : n + 1 < U.heap.size := by omega
    have z5 : m < U.heap.size := by omega
    clear s1 s2 B hW hm
    go_wp2_with fail
    rw [← hU]
    clear hU
    generalize wc.heap.size = p at *
    refine (anAwake_any _).mono ?_
    rintro e w3 ⟨rfl, hb⟩
    obtain ⟨hc, hf⟩ := bcell hb
    go_wp2_with (first | (go_at_call 26; refine (rHas_any _ _ _).mono ?_; rintro e w' ⟨rfl, hb2⟩; first | ((first | replace hb := below_next hb2 hb | replace hb := below_next hb2 (below_drewN hb) | replace hb := below_next hb2 (below_alloc hb _) | replace hb := below_next hb2 (below_drewN (below_alloc hb _)) | replace hb := below_next hb2 (below_alloc (below_drewN hb) _) | replace hb := below_next hb2 (below_alloc (below_alloc hb _) _)); clear hb2 hc hf; obtain ⟨hc, hf⟩ := bcell hb) | (have hb := hb2; clear hb2; obtain ⟨hc, hf⟩ := bcell hb)) | (go_at_call 27; refine (rWithin_any _ ⟨-65536, 65536⟩ _).mono ?_; rintro e w' ⟨rfl, hb2⟩; first | ((first | replace hb := below_next hb2 hb | replace hb := below_next hb2 (below_drewN hb) | replace hb := below_next hb2 (below_alloc hb _) | replace hb := below_next hb2 (below_drewN (below_alloc hb _)) | replace hb := below_next hb2 (below_alloc (below_drewN hb) _) | replace hb := below_next hb2 (below_alloc (below_alloc hb _) _)); clear hb2 hc hf; obtain ⟨hc, hf⟩ := bcell hb) | (have hb := hb2; clear hb2; obtain ⟨hc, hf⟩ := bcell hb)))
    go_ret
    exact ⟨rfl, below_next hb B2.out⟩
end Go.Proofs.Ytfoffkhmeeibhaa
