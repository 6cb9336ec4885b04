/- Proved: the reference's transposed matrix and product of matrices. Conditions: as each theorem states. -/
import Derived.Test.YtdaeacakgpjjgaaMatB
namespace Go.Proofs.Ytdaeacakgpjjgaa
open Go.RowKit

def M3.at (m : M3) (r c : Nat) : Iv := (m.row r).at c
/-- The entries of a matrix that p names, and zeros. -/
def selM (p : Nat → Nat → Bool) (m : M3) : M3 :=
  ⟨⟨if p 0 0 then m.x.x else zeroI, if p 0 1 then m.x.y else zeroI, if p 0 2 then m.x.z else zeroI⟩, ⟨if p 1 0 then m.y.x else zeroI, if p 1 1 then m.y.y else zeroI, if p 1 2 then m.y.z else zeroI⟩,
    ⟨if p 2 0 then m.z.x else zeroI, if p 2 1 then m.z.y else zeroI, if p 2 2 then m.z.z else zeroI⟩⟩
def addP (p : Nat → Nat → Bool) (k i r c : Nat) : Bool := (r == k && c == i) || p r c
theorem selM_congr {p q : Nat → Nat → Bool} (m : M3) (h : ∀ r c, r < 3 → c < 3 → p r c = q r c) : selM p m = selM q m := by
  unfold selM
  rw [h 0 0 (by decide) (by decide), h 0 1 (by decide) (by decide), h 0 2 (by decide) (by decide), h 1 0 (by decide) (by decide), h 1 1 (by decide) (by decide), h 1 2 (by decide) (by decide),
    h 2 0 (by decide) (by decide), h 2 1 (by decide) (by decide), h 2 2 (by decide) (by decide)]
theorem selM_all {p : Nat → Nat → Bool} (m : M3) (h : ∀ r c, r < 3 → c < 3 → p r c = true) : selM p m = m := by
  rw [selM_congr (q := fun _ _ => true) m h]; rfl
theorem selM_none {p : Nat → Nat → Bool} (m : M3) (h : ∀ r c, r < 3 → c < 3 → p r c = false) : selM p m = zeroM := by
  rw [selM_congr (q := fun _ _ => false) m h]; rfl
theorem MatAt.atl {W : World} {b r c : Nat} {m : M3} (h : MatAt W b m) (hr : r < 3) (hc : c < 3) : W.cell? ⟨b, r * 6 + c * 2, none⟩ = some (.int .i64 (m.at r c).lo) := by
  match r, hr, c, hc with
  | 0, _, 0, _ => exact h.c0
  | 0, _, 1, _ => exact h.c2
  | 0, _, 2, _ => exact h.c4
  | 1, _, 0, _ => exact h.c6
  | 1, _, 1, _ => exact h.c8
  | 1, _, 2, _ => exact h.c10
  | 2, _, 0, _ => exact h.c12
  | 2, _, 1, _ => exact h.c14
  | 2, _, 2, _ => exact h.c16
theorem MatAt.ath {W : World} {b r c : Nat} {m : M3} (h : MatAt W b m) (hr : r < 3) (hc : c < 3) : W.cell? ⟨b, r * 6 + c * 2 + 1, none⟩ = some (.int .i64 (m.at r c).hi) := by
  match r, hr, c, hc with
  | 0, _, 0, _ => exact h.c1
  | 0, _, 1, _ => exact h.c3
  | 0, _, 2, _ => exact h.c5
  | 1, _, 0, _ => exact h.c7
  | 1, _, 1, _ => exact h.c9
  | 1, _, 2, _ => exact h.c11
  | 2, _, 0, _ => exact h.c13
  | 2, _, 1, _ => exact h.c15
  | 2, _, 2, _ => exact h.c17
theorem MatAt.put_at {W : World} {b r c : Nat} {p q : Nat → Nat → Bool} {m : M3} {x : Iv} (h : MatAt W b (selM p m)) (hr : r < 3) (hc : c < 3) (e : m.at r c = x) (hq : ∀ i j, i < 3 → j < 3 → addP p r c i j = q i j) :
    MatAt ((W.setCell ⟨b, r * 6 + c * 2, none⟩ (.int .i64 x.lo)).setCell ⟨b, r * 6 + c * 2 + 1, none⟩ (.int .i64 x.hi)) b (selM q m) := by
  subst e
  rw [← selM_congr m hq]
  have h1 := heap_setCell_same W b (r * 6 + c * 2) _ _ (.int .i64 (m.at r c).lo) h
  have h2 := heap_setCell_same _ b (r * 6 + c * 2 + 1) _ _ (.int .i64 (m.at r c).hi) h1
  match r, hr, c, hc, h2 with
  | 0, _, 0, _, h2 | 0, _, 1, _, h2 | 0, _, 2, _, h2 | 1, _, 0, _, h2 | 1, _, 1, _, h2 | 1, _, 2, _, h2 | 2, _, 0, _, h2 | 2, _, 1, _, h2 | 2, _, 2, _, h2 => exact h2
theorem store_mat {P : Program} {W : World} {b : Nat} {u : M3} (v : M3) (h : MatAt W b u) : (storeCells ⟨b, 0, none⟩ (matC v).toList).run P W = .ok () (W.setRow b (matC v)) := by
  have := run_storeCells_from (P := P) b 28 (matC v).toList 0 (matC u) W h rfl (by unfold matC; simp [Value.oneCell'])
  exact this
theorem tra_at (m : M3) {r c : Nat} (hr : r < 3) (hc : c < 3) : (traM m).at r c = m.at c r := by
  match r, hr, c, hc with
  | 0, _, 0, _ | 0, _, 1, _ | 0, _, 2, _ | 1, _, 0, _ | 1, _, 1, _ | 1, _, 2, _ | 2, _, 0, _ | 2, _, 1, _ | 2, _, 2, _ => rfl
set_option linter.unusedSimpArgs false in
set_option linter.unusedVariables false in
set_option maxRecDepth 100000 in
set_option maxHeartbeats 12800000 in
theorem rTranspose_any (m : M3) (w : World) :
    Calls Try.prog 52 #[ .agg #[.int .i64 ((m).x).x.lo, .int .i64 ((m).x).x.hi, .int .i64 ((m).x).y.lo, .int .i64 ((m).x).y.hi, .int .i64 ((m).x).z.lo, .int .i64 ((m).x).z.hi, .int .i64 ((m).y).x.lo, .int .i64 ((m).y).x.hi, .int .i64 ((m).y).y.lo, .int .i64 ((m).y).y.hi, .int .i64 ((m).y).z.lo, .int .i64 ((m).y).z.hi, .int .i64 ((m).z).x.lo, .int .i64 ((m).z).x.hi, .int .i64 ((m).z).y.lo, .int .i64 ((m).z).y.hi, .int .i64 ((m).z).z.lo, .int .i64 ((m).z).z.hi] ] w fun e w' => e = .returned (.agg #[.int .i64 ((traM m).x).x.lo, .int .i64 ((traM m).x).x.hi, .int .i64 ((traM m).x).y.lo, .int .i64 ((traM m).x).y.hi, .int .i64 ((traM m).x).z.lo, .int .i64 ((traM m).x).z.hi, .int .i64 ((traM m).y).x.lo, .int .i64 ((traM m).y).x.hi, .int .i64 ((traM m).y).y.lo, .int .i64 ((traM m).y).y.hi, .int .i64 ((traM m).y).z.lo, .int .i64 ((traM m).y).z.hi, .int .i64 ((traM m).z).x.lo, .int .i64 ((traM m).z).x.hi, .int .i64 ((traM m).z).y.lo, .int .i64 ((traM m).z).y.hi, .int .i64 ((traM m).z).z.lo, .int .i64 ((traM m).z).z.hi]) ∧ Below w.heap.size w w' := by
  go_enter Try.func52, Try.ntmps52
  go_wp2_with fail
  go_loopw [4] (fun i wr => ∃ a : Nat, a ≤ 3 ∧ i = .int .i64 a ∧ MatAt wr (w.heap.size) m ∧ MatAt wr (w.heap.size + 1) zeroM ∧ MatAt wr (w.heap.size + 1 + 1) (selM (fun r c => decide (c < a)) (traM m)) ∧ Below w.heap.size w wr) (fun i _ => 3 - (intOf i).toNat)
  case atStart =>
    refine ⟨0, by omega, rfl, ?_, ?_, ?_, ?_⟩
    · exact ((MatAt.new w m).alloc _).alloc _
    · exact MatAt.alloc (MatAt.at_new (v := zeroM) (by simp)) _
    · rw [selM_none _ (fun r c _ _ => by simp)]; exact MatAt.at_new (v := zeroM) (by simp)
    · exact below_alloc (below_alloc (below_alloc (Below.refl _ _) _) _) _
  case round =>
    obtain ⟨a, ha, rfl, r0, r1, r2, hb⟩ := hrel
    by_cases h3 : a < 3
    · have y3 : (a : Int) < 3 := by omega
      go_wp2_with fail
      go_loopw [5] (fun i wr => ∃ k : Nat, k ≤ 3 ∧ i = .int .i64 k ∧ MatAt wr (w.heap.size) m ∧ MatAt wr (w.heap.size + 1) zeroM ∧ MatAt wr (w.heap.size + 1 + 1) (selM (fun r c => decide (c < a ∨ (c = a ∧ r < k))) (traM m)) ∧ Below w.heap.size w wr) (fun i _ => 3 - (intOf i).toNat)
      case atStart =>
        refine ⟨0, by omega, rfl, r0, r1, ?_, hb⟩
        rw [selM_congr _ (q := fun r c => decide (c < a)) (fun r c _ _ => by simp)]
        exact r2
      case round =>
        obtain ⟨k, hk, rfl, r0, r1, r2, hb⟩ := hrel
        by_cases h4 : k < 3
        · have x3 : (k : Int) < 3 := by omega
          have g0 := r0.atl h3 h4
          have g1 := r0.ath h3 h4
          have d0 := r2.atl h4 h3
          have d1 := r2.ath h4 h3
          have d2 := r2.free (k * 6 + a * 2)
          have d3 := r2.free (k * 6 + a * 2 + 1)
          have R0 := Lib.hid r0
          have R1 := Lib.hid r1
          have R2 := Lib.hid r2
          clear r0 r1 r2
          go_wp2_with fail
          refine wp_region_noPanic ?_
          refine wp_region_held_drew (S := (fun w3 => w3.cell? ⟨w.heap.size, a * 6 + k * 2, none⟩ = some (.int .i64 (m.at a k).lo) ∧ w3.cell? ⟨w.heap.size, a * 6 + k * 2 + 1, none⟩ = some (.int .i64 (m.at a k).hi))) (by kernel_rfl) ?_ (fun hHeld => ?_)
          focus (first | assumption | exact ⟨by go_simp, by go_simp⟩)
          refine wpAnyH_take (i := 0) (v := ?_) rfl (by kernel_rfl) (by kernel_rfl) (by kernel_rfl) (fun _ _ _ h => h) (Or.inl ⟨by rfl, ?_⟩) (by assumption) ?_; rotate_left; (focus (intro w hSw; (try dsimp only at hSw); go_simp; try with_reducible rfl)); (try simp only [Act.put, List.getElem_toArray, List.getElem_cons_succ, List.getElem_cons_zero, List.setIfInBounds_toArray, List.set_cons_zero, List.set_cons_succ])
          refine wpAnyH_take (i := 1) (v := ?_) rfl (by kernel_rfl) (by kernel_rfl) (by kernel_rfl) (fun _ _ _ h => h) (Or.inl ⟨by rfl, ?_⟩) (by assumption) ?_; rotate_left; (focus (intro w hSw; (try dsimp only at hSw); go_simp; try with_reducible rfl)); (try simp only [Act.put, List.getElem_toArray, List.getElem_cons_succ, List.getElem_cons_zero, List.setIfInBounds_toArray, List.set_cons_zero, List.set_cons_succ])
          refine wpAnyH_take (i := 2) (v := ?_) rfl (by kernel_rfl) (by kernel_rfl) (by kernel_rfl) (fun _ _ _ h => h) (Or.inl ⟨by rfl, ?_⟩) (by assumption) ?_; rotate_left; (focus (intro w hSw; (try dsimp only at hSw); go_simp; try with_reducible rfl)); (try simp only [Act.put, List.getElem_toArray, List.getElem_cons_succ, List.getElem_cons_zero, List.setIfInBounds_toArray, List.set_cons_zero, List.set_cons_succ])
          refine wpAnyH_take (i := 3) (v := ?_) rfl (by kernel_rfl) (by kernel_rfl) (by kernel_rfl) (fun _ _ _ h => h) (Or.inl ⟨by rfl, ?_⟩) (by assumption) ?_; rotate_left; (focus (intro w hSw; (try dsimp only at hSw); go_simp; try with_reducible rfl)); (try simp only [Act.put, List.getElem_toArray, List.getElem_cons_succ, List.getElem_cons_zero, List.setIfInBounds_toArray, List.set_cons_zero, List.set_cons_succ])
          refine wpAnyH_take (i := 4) (v := ?_) rfl (by kernel_rfl) (by kernel_rfl) (by kernel_rfl) (fun _ _ _ h => h) (Or.inl ⟨by rfl, ?_⟩) (by assumption) ?_; rotate_left; (focus (intro w hSw; (try dsimp only at hSw); go_simp; try with_reducible rfl)); (try simp only [Act.put, List.getElem_toArray, List.getElem_cons_succ, List.getElem_cons_zero, List.setIfInBounds_toArray, List.set_cons_zero, List.set_cons_succ])
          refine wpAnyH_take (i := 5) (v := ?_) rfl (by kernel_rfl) (by kernel_rfl) (by kernel_rfl) (fun _ _ _ h => h) (Or.inl ⟨by rfl, ?_⟩) (by assumption) ?_; rotate_left; (focus (intro w hSw; (try dsimp only at hSw); go_simp; try with_reducible rfl)); (try simp only [Act.put, List.getElem_toArray, List.getElem_cons_succ, List.getElem_cons_zero, List.setIfInBounds_toArray, List.set_cons_zero, List.set_cons_succ])
          refine wpAnyH_take (i := 6) (v := ?_) rfl (by kernel_rfl) (by kernel_rfl) (by kernel_rfl) (fun _ _ _ h => h) (Or.inl ⟨by rfl, ?_⟩) (by assumption) ?_; rotate_left; (focus (intro w hSw; (try dsimp only at hSw); go_simp; try with_reducible rfl)); (try simp only [Act.put, List.getElem_toArray, List.getElem_cons_succ, List.getElem_cons_zero, List.setIfInBounds_toArray, List.set_cons_zero, List.set_cons_succ])
          refine wpAnyH_take (i := 7) (v := ?_) rfl (by kernel_rfl) (by kernel_rfl) (by kernel_rfl) (fun _ _ _ h => h) (Or.inl ⟨by rfl, ?_⟩) (by assumption) ?_; rotate_left; (focus (intro w hSw; (try dsimp only at hSw); go_simp; try with_reducible rfl)); (try simp only [Act.put, List.getElem_toArray, List.getElem_cons_succ, List.getElem_cons_zero, List.setIfInBounds_toArray, List.set_cons_zero, List.set_cons_succ])
          refine wpAnyH_take (i := 8) (v := ?_) rfl (by kernel_rfl) (by kernel_rfl) (by kernel_rfl) (fun _ _ _ h => h) (Or.inl ⟨by rfl, ?_⟩) (by assumption) ?_; rotate_left; (focus (intro w hSw; (try dsimp only at hSw); go_simp; try with_reducible rfl)); (try simp only [Act.put, List.getElem_toArray, List.getElem_cons_succ, List.getElem_cons_zero, List.setIfInBounds_toArray, List.set_cons_zero, List.set_cons_succ])
          refine wpAnyH_ready (rs := [9]) (by kernel_rfl) (by simp) (AllReadyH.cons rfl (fun K hK => ?_) AllReadyH.nil); go_simp; refine hK.out _ _ ?_ (fun hHeld => ?_); (focus (first | assumption | exact ⟨by go_simp, by go_simp⟩)); clear hK K; (try simp only [Act.put, List.getElem_toArray, List.getElem_cons_succ, List.getElem_cons_zero, List.setIfInBounds_toArray, List.set_cons_zero, List.set_cons_succ])
          refine wpAnyH_done (by kernel_rfl) ?_ _
          refine NoPanic.normal ?_
          go_wp2_with fail
          go_roundw
          case rel =>
            refine ⟨k + 1, by omega, by go_num, ?_, ?_, ?_, ?_⟩
            · exact (R0.out.drew.far (by omega)).far (by omega)
            · exact (R1.out.drew.far (by omega)).far (by omega)
            · refine MatAt.put_at R2.out.drew h4 h3 (tra_at m h4 h3) (fun i j _ _ => ?_)
              unfold addP
              rw [Bool.eq_iff_iff]
              simp only [Bool.or_eq_true, Bool.and_eq_true, beq_iff_eq, decide_eq_true_eq]
              omega
            · exact Below.setCell (Below.setCell hb.drew (by dsimp only; omega) _) (by dsimp only; omega) _
          case measure => simp [intOf]; omega
        · obtain rfl : k = 3 := by omega
          go_wp2_with fail
          go_roundw
          case rel =>
            refine ⟨a + 1, by omega, by go_num, r0, r1, ?_, hb⟩
            rw [selM_congr _ (q := fun r c => decide (c < a ∨ (c = a ∧ r < 3))) (fun r c h1 h2 => by rw [Bool.eq_iff_iff]; simp only [decide_eq_true_eq]; omega)]
            exact r2
          case measure => simp [intOf]; omega
    · obtain rfl : a = 3 := by omega
      rw [selM_all _ (fun r c h1 h2 => by simp; omega)] at r2
      have hst := store_mat (P := Try.prog) (traM m) r1
      go_wp2_with (first | (refine wpList_load_row rfl 28 _ rfl (w.heap.size + 1 + 1) rfl 28 _ (0, 0) _ r2 under_mat rfl info_mat ?_))
      (try simp only [Exit.inBlock, Exit.then])
      refine bodyPost_ret (v := .agg (matC (traM m))) ?_ rfl ⟨rfl, setRow_below hb (by omega) _⟩
      exact results_cell_row rfl _ _ (w.heap.size + 1) 28 _ (0, 0) _ rfl (r1.put _) under_mat rfl info_mat
end Go.Proofs.Ytdaeacakgpjjgaa
