/- Proved: the statement MatrixAdds returns true. Conditions: as each theorem states. -/
import Derived.Test.YtdaeacakgpjjgaaMtK
namespace Go.Proofs.Ytdaeacakgpjjgaa
open Go.RowKit

theorem mm_at {a b : M3} (h : MM a b) {r c : Nat} (hr : r < 3) (hc : c < 3) : meets (a.at r c) (b.at r c) := by
  match r, hr, c, hc with
  | 0, _, 0, _ => exact h.1.1
  | 0, _, 1, _ => exact h.1.2.1
  | 0, _, 2, _ => exact h.1.2.2
  | 1, _, 0, _ => exact h.2.1.1
  | 1, _, 1, _ => exact h.2.1.2.1
  | 1, _, 2, _ => exact h.2.1.2.2
  | 2, _, 0, _ => exact h.2.2.1
  | 2, _, 1, _ => exact h.2.2.2.1
  | 2, _, 2, _ => exact h.2.2.2.2
theorem trn_adds {k x y : Int} (hk : k = 0 ∨ k = 1 ∨ k = 2) (x1 : -1000000 ≤ x) (x2 : x ≤ 1000000) (y1 : -1000000 ≤ y) (y2 : y ≤ 1000000) : MM (comM (trnM k (ofI x)) (trnM k (ofI y))) (trnM k (ofI (x + y))) := by
  rw [trn_point (by omega) (by omega), trn_point (by omega) (by omega), trn_point (by omega) (by omega)]
  exact rot_adds hk x y
set_option linter.unusedSimpArgs false in
set_option linter.unusedVariables false in
set_option maxRecDepth 100000 in
set_option maxHeartbeats 12800000 in
theorem MatrixAdds_any (a0 a1 a2 : Int) (w : World) (p0 : -9223372036854775808 ≤ a0) (q0 : a0 ≤ 9223372036854775807) (p1 : -9223372036854775808 ≤ a1) (q1 : a1 ≤ 9223372036854775807) (p2 : -9223372036854775808 ≤ a2) (q2 : a2 ≤ 9223372036854775807) :
    Calls Try.prog 10 #[ .int .i64 a0, .int .i64 a1, .int .i64 a2 ] w fun e w' => e = .returned (.bool true) ∧ Below w.heap.size w w' := by
  obtain ⟨k, hk⟩ : ∃ k, a0 % 3 = k := ⟨_, rfl⟩
  obtain ⟨s, hs⟩ : ∃ s, a1 % 140000 = s := ⟨_, rfl⟩
  obtain ⟨u, hu⟩ : ∃ u, a2 % 140000 = u := ⟨_, rfl⟩
  have hM := trn_adds (k := k) (x := s - 70000) (y := u - 70000) (by omega) (by omega) (by omega) (by omega) (by omega)
  have s1 : 0 ≤ s := by omega
  have s2 : s < 140000 := by omega
  have u1 : 0 ≤ u := by omega
  have u2 : u < 140000 := by omega
  obtain ⟨M, eM⟩ : ∃ M, comM (trnM k (ofI (s - 70000))) (trnM k (ofI (u - 70000))) = M := ⟨_, rfl⟩
  obtain ⟨N, eN⟩ : ∃ N, trnM k (ofI (s - 70000 + (u - 70000))) = N := ⟨_, rfl⟩
  rw [eM, eN] at hM
  have EM := Lib.hid eM
  have EN := Lib.hid eN
  have HM := Lib.hid hM
  clear eM eN hM
  go_enter Try.func10, Try.ntmps10
  go_wp2_with (first | (go_at_call 11; refine (Round_any _ _ _ (by decide) (by decide) (by omega) (by omega)).mono ?_; rintro e w' ⟨rfl, rfl⟩))
  refine (rOf_any (s - 70000) _).mono ?_
  rintro e w1 ⟨rfl, hb1⟩
  go_wp2_with fail
  refine (mTurn_any k (ofI (s - 70000)) _).mono ?_
  rintro e w2 ⟨rfl, hb2⟩
  have h2 := below_next hb2 hb1
  clear hb1 hb2
  go_wp2_with fail
  refine (rOf_any (u - 70000) _).mono ?_
  rintro e w3 ⟨rfl, hb3⟩
  have h3 := below_next hb3 h2
  clear hb3 h2
  go_wp2_with fail
  refine (mTurn_any k (ofI (u - 70000)) _).mono ?_
  rintro e w4 ⟨rfl, hb4⟩
  have h4 := below_next hb4 h3
  clear hb4 h3
  go_wp2_with fail
  refine (mCompose_as _ EM.out).mono ?_
  rintro e w5 ⟨rfl, hb5⟩
  have h5 := below_next hb5 h4
  clear hb5 h4
  go_wp2_with fail
  refine (rOf_any (s - 70000 + (u - 70000)) _).mono ?_
  rintro e w6 ⟨rfl, hb6⟩
  have h6 := below_next hb6 h5
  clear hb6 h5
  go_wp2_with fail
  refine (mTurn_as _ EN.out).mono ?_
  rintro e w8 ⟨rfl, hb8⟩
  have h8 := below_next hb8 h6
  have y8 := h8.size
  have z0 : MatAt ((w8.alloc (.cells #[.int .i64 0, .int .i64 0, .int .i64 0, .int .i64 0, .int .i64 0, .int .i64 0, .int .i64 0, .int .i64 0, .int .i64 0, .int .i64 0, .int .i64 0, .int .i64 0, .int .i64 0, .int .i64 0, .int .i64 0, .int .i64 0, .int .i64 0, .int .i64 0] 28)).alloc (.cells #[.int .i64 0, .int .i64 0, .int .i64 0, .int .i64 0, .int .i64 0, .int .i64 0, .int .i64 0, .int .i64 0, .int .i64 0, .int .i64 0, .int .i64 0, .int .i64 0, .int .i64 0, .int .i64 0, .int .i64 0, .int .i64 0, .int .i64 0, .int .i64 0] 28)) w8.heap.size zeroM := (MatAt.at_new (v := zeroM) rfl).alloc _
  have z1 : MatAt (((w8.alloc (.cells #[.int .i64 0, .int .i64 0, .int .i64 0, .int .i64 0, .int .i64 0, .int .i64 0, .int .i64 0, .int .i64 0, .int .i64 0, .int .i64 0, .int .i64 0, .int .i64 0, .int .i64 0, .int .i64 0, .int .i64 0, .int .i64 0, .int .i64 0, .int .i64 0] 28)).alloc (.cells #[.int .i64 0, .int .i64 0, .int .i64 0, .int .i64 0, .int .i64 0, .int .i64 0, .int .i64 0, .int .i64 0, .int .i64 0, .int .i64 0, .int .i64 0, .int .i64 0, .int .i64 0, .int .i64 0, .int .i64 0, .int .i64 0, .int .i64 0, .int .i64 0] 28)).setRow w8.heap.size (matC M)) (w8.heap.size + 1) zeroM := MatAt.row (MatAt.at_new (v := zeroM) (by simp)) (by omega)
  have F0 := Lib.hid (show MatAt ((((w8.alloc (.cells #[.int .i64 0, .int .i64 0, .int .i64 0, .int .i64 0, .int .i64 0, .int .i64 0, .int .i64 0, .int .i64 0, .int .i64 0, .int .i64 0, .int .i64 0, .int .i64 0, .int .i64 0, .int .i64 0, .int .i64 0, .int .i64 0, .int .i64 0, .int .i64 0] 28)).alloc (.cells #[.int .i64 0, .int .i64 0, .int .i64 0, .int .i64 0, .int .i64 0, .int .i64 0, .int .i64 0, .int .i64 0, .int .i64 0, .int .i64 0, .int .i64 0, .int .i64 0, .int .i64 0, .int .i64 0, .int .i64 0, .int .i64 0, .int .i64 0, .int .i64 0] 28)).setRow w8.heap.size (matC M)).setRow (w8.heap.size + 1) (matC N)) w8.heap.size M from (z0.put M).row (by omega))
  have F1 := Lib.hid (show MatAt ((((w8.alloc (.cells #[.int .i64 0, .int .i64 0, .int .i64 0, .int .i64 0, .int .i64 0, .int .i64 0, .int .i64 0, .int .i64 0, .int .i64 0, .int .i64 0, .int .i64 0, .int .i64 0, .int .i64 0, .int .i64 0, .int .i64 0, .int .i64 0, .int .i64 0, .int .i64 0] 28)).alloc (.cells #[.int .i64 0, .int .i64 0, .int .i64 0, .int .i64 0, .int .i64 0, .int .i64 0, .int .i64 0, .int .i64 0, .int .i64 0, .int .i64 0, .int .i64 0, .int .i64 0, .int .i64 0, .int .i64 0, .int .i64 0, .int .i64 0, .int .i64 0, .int .i64 0] 28)).setRow w8.heap.size (matC M)).setRow (w8.heap.size + 1) (matC N)) (w8.heap.size + 1) N from z1.put N)
  have kb := Lib.hid (show Below w.heap.size w ((((w8.alloc (.cells #[.int .i64 0, .int .i64 0, .int .i64 0, .int .i64 0, .int .i64 0, .int .i64 0, .int .i64 0, .int .i64 0, .int .i64 0, .int .i64 0, .int .i64 0, .int .i64 0, .int .i64 0, .int .i64 0, .int .i64 0, .int .i64 0, .int .i64 0, .int .i64 0] 28)).alloc (.cells #[.int .i64 0, .int .i64 0, .int .i64 0, .int .i64 0, .int .i64 0, .int .i64 0, .int .i64 0, .int .i64 0, .int .i64 0, .int .i64 0, .int .i64 0, .int .i64 0, .int .i64 0, .int .i64 0, .int .i64 0, .int .i64 0, .int .i64 0, .int .i64 0] 28)).setRow w8.heap.size (matC M)).setRow (w8.heap.size + 1) (matC N)) from setRow_below (setRow_below (below_alloc (below_alloc h8 _) _) (by omega) _) (by omega) _)
  clear hb8 h6 h8
  go_wp2_with (first | (refine wpList_store_row rfl 28 _ _ rfl (w8.heap.size) (matC (M)) rfl rfl 28 (matC zeroM) z0 info_mat rfl (mat_one _) ?_) | (refine wpList_store_row rfl 28 _ _ rfl (w8.heap.size + 1) (matC (N)) rfl rfl 28 (matC zeroM) z1 info_mat rfl (mat_one _) ?_))
  obtain ⟨V, hV⟩ : ∃ V : World, V = ((((w8.alloc (.cells #[.int .i64 0, .int .i64 0, .int .i64 0, .int .i64 0, .int .i64 0, .int .i64 0, .int .i64 0, .int .i64 0, .int .i64 0, .int .i64 0, .int .i64 0, .int .i64 0, .int .i64 0, .int .i64 0, .int .i64 0, .int .i64 0, .int .i64 0, .int .i64 0] 28)).alloc (.cells #[.int .i64 0, .int .i64 0, .int .i64 0, .int .i64 0, .int .i64 0, .int .i64 0, .int .i64 0, .int .i64 0, .int .i64 0, .int .i64 0, .int .i64 0, .int .i64 0, .int .i64 0, .int .i64 0, .int .i64 0, .int .i64 0, .int .i64 0, .int .i64 0] 28)).setRow w8.heap.size (matC M)).setRow (w8.heap.size + 1) (matC N)) := ⟨_, rfl⟩
  obtain ⟨n0, hn⟩ : ∃ n0, n0 = w8.heap.size := ⟨_, rfl⟩
  rw [← hV] at F0 F1 kb ⊢
  rw [← hn] at F0 F1 ⊢
  clear hV z0 z1 hn y8 EM EN hs hu hk s1 s2 u1 u2 p0 q0 p1 q1 p2 q2
  (try simp only [Act.put, List.getElem_toArray, List.getElem_cons_succ, List.getElem_cons_zero, List.setIfInBounds_toArray, List.set_cons_zero, List.set_cons_succ])
  go_loopw [12] (fun i wr => ∃ r : Nat, r ≤ 3 ∧ i = .int .i64 r ∧ MatAt wr n0 M ∧ MatAt wr (n0 + 1) N ∧ Below V.heap.size V wr) (fun i _ => 3 - (intOf i).toNat)
  case atStart =>
    exact ⟨0, by omega, rfl, F0.out, F1.out, Below.refl _ _⟩
  case round =>
    obtain ⟨r, hr, rfl, r0, r1, hb⟩ := hrel
    by_cases h3 : r < 3
    · have y3 : (r : Int) < 3 := by omega
      go_wp2_with fail
      go_loopw [13] (fun i wr => ∃ c : Nat, c ≤ 3 ∧ i = .int .i64 c ∧ MatAt wr n0 M ∧ MatAt wr (n0 + 1) N ∧ Below V.heap.size V wr) (fun i _ => 3 - (intOf i).toNat)
      case atStart =>
        exact ⟨0, by omega, rfl, r0, r1, hb⟩
      case round =>
        obtain ⟨c, hc, rfl, r0, r1, hb⟩ := hrel
        by_cases h4 : c < 3
        · have x3 : (c : Int) < 3 := by omega
          have R0 := Lib.hid r0
          have R1 := Lib.hid r1
          have HB := Lib.hid hb
          clear r0 r1 hb
          go_wp2_with fail
          have g0 : ∀ w3 : World, Below wr.heap.size wr w3 → w3.cell? ⟨n0, r * 6 + c * 2, none⟩ = some (.int .i64 (M.at r c).lo) := fun w3 h => (R0.out.below h).atl h3 h4
          have g1 : ∀ w3 : World, Below wr.heap.size wr w3 → w3.cell? ⟨n0, r * 6 + c * 2 + 1, none⟩ = some (.int .i64 (M.at r c).hi) := fun w3 h => (R0.out.below h).ath h3 h4
          have g2 : ∀ w3 : World, Below wr.heap.size wr w3 → w3.cell? ⟨n0 + 1, r * 6 + c * 2, none⟩ = some (.int .i64 (N.at r c).lo) := fun w3 h => (R1.out.below h).atl h3 h4
          have g3 : ∀ w3 : World, Below wr.heap.size wr w3 → w3.cell? ⟨n0 + 1, r * 6 + c * 2 + 1, none⟩ = some (.int .i64 (N.at r c).hi) := fun w3 h => (R1.out.below h).ath h3 h4
          go_cut [15] (fun u wy => u = .bool true ∧ Below wr.heap.size wr wy)
          case first =>
            refine wp_region_noPanic ?_
            refine wp_region_held_drew (S := (fun w3 => Below wr.heap.size wr w3)) (by kernel_rfl) ?_ (fun hHeld => ?_)
            focus (with_reducible first | exact (Below.refl _ _).drew | exact below_next hb2 hHeld | exact below_alloc hHeld _ | exact (below_alloc (Below.refl _ _) _).drew | exact below_alloc (by assumption) _ | exact Below.setCell (Below.setCell hHeld (by (try dsimp only); omega) _) (by (try dsimp only); omega) _)
            refine wpAnyH_take (i := 0) (v := ?_) rfl (by kernel_rfl) (by kernel_rfl) (by kernel_rfl) (fun _ _ _ h => h) (Or.inl ⟨by rfl, ?_⟩) (by assumption) ?_; rotate_left; (focus (intro w hSw; (try dsimp only at hSw); go_simp; try with_reducible rfl)); (try simp only [Act.put, List.getElem_toArray, List.getElem_cons_succ, List.getElem_cons_zero, List.setIfInBounds_toArray, List.set_cons_zero, List.set_cons_succ])
            refine wpAnyH_take (i := 1) (v := ?_) rfl (by kernel_rfl) (by kernel_rfl) (by kernel_rfl) (fun _ _ _ h => h) (Or.inl ⟨by rfl, ?_⟩) (by assumption) ?_; rotate_left; (focus (intro w hSw; (try dsimp only at hSw); go_simp; try with_reducible rfl)); (try simp only [Act.put, List.getElem_toArray, List.getElem_cons_succ, List.getElem_cons_zero, List.setIfInBounds_toArray, List.set_cons_zero, List.set_cons_succ])
            refine wpAnyH_take (i := 2) (v := ?_) rfl (by kernel_rfl) (by kernel_rfl) (by kernel_rfl) (fun _ _ _ h => h) (Or.inl ⟨by rfl, ?_⟩) (by assumption) ?_; rotate_left; (focus (intro w hSw; (try dsimp only at hSw); go_simp; try with_reducible rfl)); (try simp only [Act.put, List.getElem_toArray, List.getElem_cons_succ, List.getElem_cons_zero, List.setIfInBounds_toArray, List.set_cons_zero, List.set_cons_succ])
            refine wpAnyH_take (i := 3) (v := ?_) rfl (by kernel_rfl) (by kernel_rfl) (by kernel_rfl) (fun _ _ _ h => h) (Or.inl ⟨by rfl, ?_⟩) (by assumption) ?_; rotate_left; (focus (intro w hSw; (try dsimp only at hSw); go_simp; try with_reducible rfl)); (try simp only [Act.put, List.getElem_toArray, List.getElem_cons_succ, List.getElem_cons_zero, List.setIfInBounds_toArray, List.set_cons_zero, List.set_cons_succ])
            refine wpAnyH_take (i := 4) (v := ?_) rfl (by kernel_rfl) (by kernel_rfl) (by kernel_rfl) (fun _ _ _ h => h) (Or.inl ⟨by rfl, ?_⟩) (by assumption) ?_; rotate_left; (focus (intro w hSw; (try dsimp only at hSw); go_simp; try with_reducible rfl)); (try simp only [Act.put, List.getElem_toArray, List.getElem_cons_succ, List.getElem_cons_zero, List.setIfInBounds_toArray, List.set_cons_zero, List.set_cons_succ])
            refine wpAnyH_take (i := 5) (v := ?_) rfl (by kernel_rfl) (by kernel_rfl) (by kernel_rfl) (fun _ _ _ h => h) (Or.inl ⟨by rfl, ?_⟩) (by assumption) ?_; rotate_left; (focus (intro w hSw; (try dsimp only at hSw); go_simp; try with_reducible rfl)); (try simp only [Act.put, List.getElem_toArray, List.getElem_cons_succ, List.getElem_cons_zero, List.setIfInBounds_toArray, List.set_cons_zero, List.set_cons_succ])
            refine wpAnyH_take (i := 6) (v := ?_) rfl (by kernel_rfl) (by kernel_rfl) (by kernel_rfl) (fun _ _ _ h => h) (Or.inl ⟨by rfl, ?_⟩) (by assumption) ?_; rotate_left; (focus (intro w hSw; (try dsimp only at hSw); go_simp; try with_reducible rfl)); (try simp only [Act.put, List.getElem_toArray, List.getElem_cons_succ, List.getElem_cons_zero, List.setIfInBounds_toArray, List.set_cons_zero, List.set_cons_succ])
            refine wpAnyH_take (i := 7) (v := ?_) rfl (by kernel_rfl) (by kernel_rfl) (by kernel_rfl) (fun _ _ _ h => h) (Or.inl ⟨by rfl, ?_⟩) (by assumption) ?_; rotate_left; (focus (intro w hSw; (try dsimp only at hSw); go_simp; try with_reducible rfl)); (try simp only [Act.put, List.getElem_toArray, List.getElem_cons_succ, List.getElem_cons_zero, List.setIfInBounds_toArray, List.set_cons_zero, List.set_cons_succ])
            refine wpAnyH_take (i := 8) (v := ?_) rfl (by kernel_rfl) (by kernel_rfl) (by kernel_rfl) (fun _ _ _ h => h) (Or.inl ⟨by rfl, ?_⟩) (by assumption) ?_; rotate_left; (focus (intro w hSw; (try dsimp only at hSw); go_simp; try with_reducible rfl)); (try simp only [Act.put, List.getElem_toArray, List.getElem_cons_succ, List.getElem_cons_zero, List.setIfInBounds_toArray, List.set_cons_zero, List.set_cons_succ])
            refine wpAnyH_take (i := 9) (v := ?_) rfl (by kernel_rfl) (by kernel_rfl) (by kernel_rfl) (fun _ _ _ h => h) (Or.inl ⟨by rfl, ?_⟩) (by assumption) ?_; rotate_left; (focus (intro w hSw; (try dsimp only at hSw); go_simp; try with_reducible rfl)); (try simp only [Act.put, List.getElem_toArray, List.getElem_cons_succ, List.getElem_cons_zero, List.setIfInBounds_toArray, List.set_cons_zero, List.set_cons_succ])
            refine wpAnyH_ready (rs := [10, 14]) (by kernel_rfl) (by simp) (AllReadyH.cons rfl (fun K hK => ?_) (AllReadyH.cons rfl (fun K hK => ?_) (AllReadyH.nil)))
            · go_simp; ((go_at_call 36; refine (rMeet_as _ (mm_at HM.out h3 h4)).mono ?_; rintro e w' ⟨rfl, hb2⟩); have hz := hb2.size; have hy := (below_next hb2 hHeld).size; (try have hn2 := hn.below hb2); (try clear hn); (try have hn := hn2); (try clear hn2); (try clear n0' n1 n2 n3); (try have n0' := hn.c0); (try have n1 := hn.c1); (try have n2 := hn.f0); (try have n3 := hn.f1)); go_wp2_with fail; refine hK.out _ _ ?_ (fun hHeld => ?_); (focus (with_reducible first | exact (Below.refl _ _).drew | exact below_next hb2 hHeld | exact below_alloc hHeld _ | exact (below_alloc (Below.refl _ _) _).drew | exact below_alloc (by assumption) _ | exact Below.setCell (Below.setCell hHeld (by (try dsimp only); omega) _) (by (try dsimp only); omega) _)); clear hK K; (try simp only [Act.put, List.getElem_toArray, List.getElem_cons_succ, List.getElem_cons_zero, List.setIfInBounds_toArray, List.set_cons_zero, List.set_cons_succ])
              refine wpAnyH_take (i := 11) (v := ?_) rfl (by kernel_rfl) (by kernel_rfl) (by kernel_rfl) (fun _ _ _ h => h) (Or.inl ⟨by rfl, ?_⟩) (by assumption) ?_; rotate_left; (focus (intro w hSw; (try dsimp only at hSw); go_simp; try with_reducible rfl)); (try simp only [Act.put, List.getElem_toArray, List.getElem_cons_succ, List.getElem_cons_zero, List.setIfInBounds_toArray, List.set_cons_zero, List.set_cons_succ])
              refine wpAnyH_take (i := 12) (v := ?_) rfl (by kernel_rfl) (by kernel_rfl) (by kernel_rfl) (fun _ _ _ h => h) (Or.inl ⟨by rfl, ?_⟩) (by assumption) ?_; rotate_left; (focus (intro w hSw; (try dsimp only at hSw); go_simp; try with_reducible rfl)); (try simp only [Act.put, List.getElem_toArray, List.getElem_cons_succ, List.getElem_cons_zero, List.setIfInBounds_toArray, List.set_cons_zero, List.set_cons_succ])
              refine wpAnyH_take (i := 13) (v := ?_) rfl (by kernel_rfl) (by kernel_rfl) (by kernel_rfl) (fun _ _ _ h => h) (Or.inl ⟨by rfl, ?_⟩) (by assumption) ?_; rotate_left; (focus (intro w hSw; (try dsimp only at hSw); go_simp; try with_reducible rfl)); (try simp only [Act.put, List.getElem_toArray, List.getElem_cons_succ, List.getElem_cons_zero, List.setIfInBounds_toArray, List.set_cons_zero, List.set_cons_succ])
              refine wpAnyH_ready (rs := [14]) (by kernel_rfl) (by simp) (AllReadyH.cons rfl (fun K hK => ?_) (AllReadyH.nil))
              go_simp; refine hK.out _ _ ?_ (fun hHeld => ?_); (focus (with_reducible first | exact (Below.refl _ _).drew | exact below_next hb2 hHeld | exact below_alloc hHeld _ | exact (below_alloc (Below.refl _ _) _).drew | exact below_alloc (by assumption) _ | exact Below.setCell (Below.setCell hHeld (by (try dsimp only); omega) _) (by (try dsimp only); omega) _)); clear hK K; (try simp only [Act.put, List.getElem_toArray, List.getElem_cons_succ, List.getElem_cons_zero, List.setIfInBounds_toArray, List.set_cons_zero, List.set_cons_succ]); have hn : IvAt (w'.alloc (.cells #[.int .i64 0, .int .i64 0] 23)) w'.heap.size zeroI := heap_alloc_new _ _; have n0' := hn.c0; have n1 := hn.c1; have n2 := hn.f0; have n3 := hn.f1; have hz := hHeld.size; (try simp at hz)
              refine wpAnyH_ready (rs := [15]) (by kernel_rfl) (by simp) (AllReadyH.cons rfl (fun K hK => ?_) (AllReadyH.nil))
              go_simp; refine hK.out _ _ ?_ (fun hHeld => ?_); (focus (with_reducible first | exact (Below.refl _ _).drew | exact below_next hb2 hHeld | exact below_alloc hHeld _ | exact (below_alloc (Below.refl _ _) _).drew | exact below_alloc (by assumption) _ | exact Below.setCell (Below.setCell hHeld (by (try dsimp only); omega) _) (by (try dsimp only); omega) _)); clear hK K; (try simp only [Act.put, List.getElem_toArray, List.getElem_cons_succ, List.getElem_cons_zero, List.setIfInBounds_toArray, List.set_cons_zero, List.set_cons_succ])
              refine wpAnyH_take (i := 16) (v := ?_) rfl (by kernel_rfl) (by kernel_rfl) (by kernel_rfl) (fun _ _ _ h => h) (Or.inl ⟨by rfl, ?_⟩) (by assumption) ?_; rotate_left; (focus (intro w hSw; (try dsimp only at hSw); go_simp; try with_reducible rfl)); (try simp only [Act.put, List.getElem_toArray, List.getElem_cons_succ, List.getElem_cons_zero, List.setIfInBounds_toArray, List.set_cons_zero, List.set_cons_succ])
              refine wpAnyH_done (by kernel_rfl) ?_ _
              refine NoPanic.normal ?_
              go_wp2_with fail
              go_meet
              exact ⟨rfl, hHeld⟩
            · go_simp; refine hK.out _ _ ?_ (fun hHeld => ?_); (focus (with_reducible first | exact (Below.refl _ _).drew | exact below_next hb2 hHeld | exact below_alloc hHeld _ | exact (below_alloc (Below.refl _ _) _).drew | exact below_alloc (by assumption) _ | exact Below.setCell (Below.setCell hHeld (by (try dsimp only); omega) _) (by (try dsimp only); omega) _)); clear hK K; (try simp only [Act.put, List.getElem_toArray, List.getElem_cons_succ, List.getElem_cons_zero, List.setIfInBounds_toArray, List.set_cons_zero, List.set_cons_succ]); have hn : IvAt (wr.alloc (.cells #[.int .i64 0, .int .i64 0] 23)).drew wr.heap.size zeroI := heap_alloc_new _ _; have n0' := hn.c0; have n1 := hn.c1; have n2 := hn.f0; have n3 := hn.f1; have hz := hHeld.size; (try simp at hz)
              refine wpAnyH_ready (rs := [10]) (by kernel_rfl) (by simp) (AllReadyH.cons rfl (fun K hK => ?_) (AllReadyH.nil))
              go_simp; ((go_at_call 36; refine (rMeet_as _ (mm_at HM.out h3 h4)).mono ?_; rintro e w' ⟨rfl, hb2⟩); have hz := hb2.size; have hy := (below_next hb2 hHeld).size; (try have hn2 := hn.below hb2); (try clear hn); (try have hn := hn2); (try clear hn2); (try clear n0' n1 n2 n3); (try have n0' := hn.c0); (try have n1 := hn.c1); (try have n2 := hn.f0); (try have n3 := hn.f1)); go_wp2_with fail; refine hK.out _ _ ?_ (fun hHeld => ?_); (focus (with_reducible first | exact (Below.refl _ _).drew | exact below_next hb2 hHeld | exact below_alloc hHeld _ | exact (below_alloc (Below.refl _ _) _).drew | exact below_alloc (by assumption) _ | exact Below.setCell (Below.setCell hHeld (by (try dsimp only); omega) _) (by (try dsimp only); omega) _)); clear hK K; (try simp only [Act.put, List.getElem_toArray, List.getElem_cons_succ, List.getElem_cons_zero, List.setIfInBounds_toArray, List.set_cons_zero, List.set_cons_succ])
              refine wpAnyH_take (i := 11) (v := ?_) rfl (by kernel_rfl) (by kernel_rfl) (by kernel_rfl) (fun _ _ _ h => h) (Or.inl ⟨by rfl, ?_⟩) (by assumption) ?_; rotate_left; (focus (intro w hSw; (try dsimp only at hSw); go_simp; try with_reducible rfl)); (try simp only [Act.put, List.getElem_toArray, List.getElem_cons_succ, List.getElem_cons_zero, List.setIfInBounds_toArray, List.set_cons_zero, List.set_cons_succ])
              refine wpAnyH_take (i := 12) (v := ?_) rfl (by kernel_rfl) (by kernel_rfl) (by kernel_rfl) (fun _ _ _ h => h) (Or.inl ⟨by rfl, ?_⟩) (by assumption) ?_; rotate_left; (focus (intro w hSw; (try dsimp only at hSw); go_simp; try with_reducible rfl)); (try simp only [Act.put, List.getElem_toArray, List.getElem_cons_succ, List.getElem_cons_zero, List.setIfInBounds_toArray, List.set_cons_zero, List.set_cons_succ])
              refine wpAnyH_take (i := 13) (v := ?_) rfl (by kernel_rfl) (by kernel_rfl) (by kernel_rfl) (fun _ _ _ h => h) (Or.inl ⟨by rfl, ?_⟩) (by assumption) ?_; rotate_left; (focus (intro w hSw; (try dsimp only at hSw); go_simp; try with_reducible rfl)); (try simp only [Act.put, List.getElem_toArray, List.getElem_cons_succ, List.getElem_cons_zero, List.setIfInBounds_toArray, List.set_cons_zero, List.set_cons_succ])
              refine wpAnyH_ready (rs := [15]) (by kernel_rfl) (by simp) (AllReadyH.cons rfl (fun K hK => ?_) (AllReadyH.nil))
              go_simp; refine hK.out _ _ ?_ (fun hHeld => ?_); (focus (with_reducible first | exact (Below.refl _ _).drew | exact below_next hb2 hHeld | exact below_alloc hHeld _ | exact (below_alloc (Below.refl _ _) _).drew | exact below_alloc (by assumption) _ | exact Below.setCell (Below.setCell hHeld (by (try dsimp only); omega) _) (by (try dsimp only); omega) _)); clear hK K; (try simp only [Act.put, List.getElem_toArray, List.getElem_cons_succ, List.getElem_cons_zero, List.setIfInBounds_toArray, List.set_cons_zero, List.set_cons_succ])
              refine wpAnyH_take (i := 16) (v := ?_) rfl (by kernel_rfl) (by kernel_rfl) (by kernel_rfl) (fun _ _ _ h => h) (Or.inl ⟨by rfl, ?_⟩) (by assumption) ?_; rotate_left; (focus (intro w hSw; (try dsimp only at hSw); go_simp; try with_reducible rfl)); (try simp only [Act.put, List.getElem_toArray, List.getElem_cons_succ, List.getElem_cons_zero, List.setIfInBounds_toArray, List.set_cons_zero, List.set_cons_succ])
              refine wpAnyH_done (by kernel_rfl) ?_ _
              refine NoPanic.normal ?_
              go_wp2_with fail
              go_meet
              exact ⟨rfl, hHeld⟩
          case rest =>
            obtain ⟨rfl, hW⟩ := hcut
            go_wp2_with fail
            go_roundw
            case rel =>
              exact ⟨c + 1, by omega, by go_num, R0.out.below hW, R1.out.below hW, below_next hW HB.out⟩
            case measure => simp [intOf]; omega
        · obtain rfl : c = 3 := by omega
          go_wp2_with fail
          go_roundw
          case rel =>
            exact ⟨r + 1, by omega, by go_num, r0, r1, hb⟩
          case measure => simp [intOf]; omega
    · obtain rfl : r = 3 := by omega
      go_wp2_with fail
      refine (mAwake_any _).mono ?_
      rintro e w9 ⟨rfl, hb9⟩
      go_wp2_with fail
      go_ret
      exact ⟨rfl, below_next hb9 (below_next hb kb.out)⟩
end Go.Proofs.Ytdaeacakgpjjgaa
