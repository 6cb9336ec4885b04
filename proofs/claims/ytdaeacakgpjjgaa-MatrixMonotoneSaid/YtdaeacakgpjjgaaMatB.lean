/- Proved: the reference's product of a matrix and a vector. Conditions: as each theorem states. -/
import Derived.Test.YtdaeacakgpjjgaaMatA
import Derived.LoopTactic
namespace Go.Proofs.Ytdaeacakgpjjgaa
open Go.RowKit

/-- Entry k of a vector, row i of a matrix. -/
def V3.at (v : V3) (k : Nat) : Iv := if k = 0 then v.x else if k = 1 then v.y else v.z
def M3.row (m : M3) (i : Nat) : V3 := if i = 0 then m.x else if i = 1 then m.y else m.z
/-- The first i entries of a vector, and zeros. -/
def V3.upto (v : V3) (i : Nat) : V3 := ⟨if 0 < i then v.x else zeroI, if 1 < i then v.y else zeroI, if 2 < i then v.z else zeroI⟩
theorem upto3 (v : V3) : v.upto 3 = v := rfl
theorem app_at (m : M3) (v : V3) {k : Nat} (h : k < 3) : (appM m v).at k = dotV (m.row k) v := by
  match k, h with
  | 0, _ | 1, _ | 2, _ => rfl
theorem VecAt.at0 {W : World} {b k : Nat} {u : V3} (h : VecAt W b (u.upto k)) (hk : k < 3) : W.cell? ⟨b, k * 2, none⟩ = some (.int .i64 0) ∧ W.cell? ⟨b, k * 2 + 1, none⟩ = some (.int .i64 0) := by
  match k, hk, h with
  | 0, _, h => exact ⟨h.c0, h.c1⟩
  | 1, _, h => exact ⟨h.c2, h.c3⟩
  | 2, _, h => exact ⟨h.c4, h.c5⟩
theorem VecAt.put_at {W : World} {b k : Nat} {u : V3} {x : Iv} (h : VecAt W b (u.upto k)) (hk : k < 3) (e : u.at k = x) : VecAt ((W.setCell ⟨b, k * 2, none⟩ (.int .i64 x.lo)).setCell ⟨b, k * 2 + 1, none⟩ (.int .i64 x.hi)) b (u.upto (k + 1)) := by
  subst e
  have h1 := heap_setCell_same W b (k * 2) _ _ (.int .i64 (u.at k).lo) h
  have h2 := heap_setCell_same _ b (k * 2 + 1) _ _ (.int .i64 (u.at k).hi) h1
  match k, hk, h2 with
  | 0, _, h2 | 1, _, h2 | 2, _, h2 => exact h2
theorem store_vec {P : Program} {W : World} {b : Nat} {u : V3} (v : V3) (h : VecAt W b u) : (storeCells ⟨b, 0, none⟩ (vecC v).toList).run P W = .ok () (W.setRow b (vecC v)) := by
  have := run_storeCells_from (P := P) b 31 (vecC v).toList 0 (vecC u) W h rfl (by unfold vecC; simp [Value.oneCell'])
  exact this
theorem MatAt.row_xlo {W : World} {b k : Nat} {m : M3} (h : MatAt W b m) (hk : k < 3) : W.cell? ⟨b, k * 6, none⟩ = some (.int .i64 (m.row k).x.lo) := by
  match k, hk with
  | 0, _ => exact h.c0
  | 1, _ => exact h.c6
  | 2, _ => exact h.c12
theorem MatAt.row_xhi {W : World} {b k : Nat} {m : M3} (h : MatAt W b m) (hk : k < 3) : W.cell? ⟨b, k * 6 + 1, none⟩ = some (.int .i64 (m.row k).x.hi) := by
  match k, hk with
  | 0, _ => exact h.c1
  | 1, _ => exact h.c7
  | 2, _ => exact h.c13
theorem MatAt.row_ylo {W : World} {b k : Nat} {m : M3} (h : MatAt W b m) (hk : k < 3) : W.cell? ⟨b, k * 6 + 2, none⟩ = some (.int .i64 (m.row k).y.lo) := by
  match k, hk with
  | 0, _ => exact h.c2
  | 1, _ => exact h.c8
  | 2, _ => exact h.c14
theorem MatAt.row_yhi {W : World} {b k : Nat} {m : M3} (h : MatAt W b m) (hk : k < 3) : W.cell? ⟨b, k * 6 + 3, none⟩ = some (.int .i64 (m.row k).y.hi) := by
  match k, hk with
  | 0, _ => exact h.c3
  | 1, _ => exact h.c9
  | 2, _ => exact h.c15
theorem MatAt.row_zlo {W : World} {b k : Nat} {m : M3} (h : MatAt W b m) (hk : k < 3) : W.cell? ⟨b, k * 6 + 4, none⟩ = some (.int .i64 (m.row k).z.lo) := by
  match k, hk with
  | 0, _ => exact h.c4
  | 1, _ => exact h.c10
  | 2, _ => exact h.c16
theorem MatAt.row_zhi {W : World} {b k : Nat} {m : M3} (h : MatAt W b m) (hk : k < 3) : W.cell? ⟨b, k * 6 + 5, none⟩ = some (.int .i64 (m.row k).z.hi) := by
  match k, hk with
  | 0, _ => exact h.c5
  | 1, _ => exact h.c11
  | 2, _ => exact h.c17
set_option linter.unusedSimpArgs false in
set_option linter.unusedVariables false in
set_option maxRecDepth 100000 in
set_option maxHeartbeats 12800000 in
theorem rApplyMat_any (m : M3) (v : V3) (w : World) :
    Calls Try.prog 47 #[ .agg #[.int .i64 ((m).x).x.lo, .int .i64 ((m).x).x.hi, .int .i64 ((m).x).y.lo, .int .i64 ((m).x).y.hi, .int .i64 ((m).x).z.lo, .int .i64 ((m).x).z.hi, .int .i64 ((m).y).x.lo, .int .i64 ((m).y).x.hi, .int .i64 ((m).y).y.lo, .int .i64 ((m).y).y.hi, .int .i64 ((m).y).z.lo, .int .i64 ((m).y).z.hi, .int .i64 ((m).z).x.lo, .int .i64 ((m).z).x.hi, .int .i64 ((m).z).y.lo, .int .i64 ((m).z).y.hi, .int .i64 ((m).z).z.lo, .int .i64 ((m).z).z.hi], .agg #[.int .i64 (v).x.lo, .int .i64 (v).x.hi, .int .i64 (v).y.lo, .int .i64 (v).y.hi, .int .i64 (v).z.lo, .int .i64 (v).z.hi] ] w fun e w' => e = .returned (.agg #[.int .i64 (appM m v).x.lo, .int .i64 (appM m v).x.hi, .int .i64 (appM m v).y.lo, .int .i64 (appM m v).y.hi, .int .i64 (appM m v).z.lo, .int .i64 (appM m v).z.hi]) ∧ Below w.heap.size w w' := by
  go_enter Try.func47, Try.ntmps47
  go_wp2_with fail
  go_loopw [6] (fun i wr => ∃ k : Nat, k ≤ 3 ∧ i = .int .i64 k ∧ MatAt wr (w.heap.size) m ∧ VecAt wr (w.heap.size + 1) v ∧ VecAt wr (w.heap.size + 1 + 1) zeroV ∧ VecAt wr (w.heap.size + 1 + 1 + 1) ((appM m v).upto k) ∧ Below w.heap.size w wr) (fun i _ => 3 - (intOf i).toNat)
  case atStart =>
    refine ⟨0, by omega, rfl, ?_, ?_, ?_, ?_, ?_⟩
    · exact (((MatAt.new w m).alloc _).alloc _).alloc _
    · exact VecAt.alloc (VecAt.alloc (VecAt.at_new (by simp)) _) _
    · exact VecAt.alloc (VecAt.at_new (v := zeroV) (by simp)) _
    · exact VecAt.at_new (v := (appM m v).upto 0) (by simp)
    · exact below_alloc (below_alloc (below_alloc (below_alloc (Below.refl _ _) _) _) _) _
  case round =>
    obtain ⟨k, hk, rfl, r0, r1, r2, r3, hb⟩ := hrel
    by_cases h3 : k < 3
    · have x3 : (k : Int) < 3 := by omega
      have R0 := Lib.hid r0
      have R1 := Lib.hid r1
      have q1 := r1.lt
      have q2 := r2.lt
      have q3 := r3.lt
      have g0 : ∀ w3 : World, w3.heap[w.heap.size]? = wr.heap[w.heap.size]? → w3.cell? ⟨w.heap.size, k * 6, none⟩ = some (.int .i64 (m.row k).x.lo) := fun _ h => MatAt.row_xlo (h.trans R0.out) h3
      have g1 : ∀ w3 : World, w3.heap[w.heap.size]? = wr.heap[w.heap.size]? → w3.cell? ⟨w.heap.size, k * 6 + 1, none⟩ = some (.int .i64 (m.row k).x.hi) := fun _ h => MatAt.row_xhi (h.trans R0.out) h3
      have g2 : ∀ w3 : World, w3.heap[w.heap.size]? = wr.heap[w.heap.size]? → w3.cell? ⟨w.heap.size, k * 6 + 2, none⟩ = some (.int .i64 (m.row k).y.lo) := fun _ h => MatAt.row_ylo (h.trans R0.out) h3
      have g3 : ∀ w3 : World, w3.heap[w.heap.size]? = wr.heap[w.heap.size]? → w3.cell? ⟨w.heap.size, k * 6 + 2 + 1, none⟩ = some (.int .i64 (m.row k).y.hi) := fun _ h => MatAt.row_yhi (h.trans R0.out) h3
      have g4 : ∀ w3 : World, w3.heap[w.heap.size]? = wr.heap[w.heap.size]? → w3.cell? ⟨w.heap.size, k * 6 + 3, none⟩ = some (.int .i64 (m.row k).y.hi) := fun _ h => MatAt.row_yhi (h.trans R0.out) h3
      have g5 : ∀ w3 : World, w3.heap[w.heap.size]? = wr.heap[w.heap.size]? → w3.cell? ⟨w.heap.size, k * 6 + 4, none⟩ = some (.int .i64 (m.row k).z.lo) := fun _ h => MatAt.row_zlo (h.trans R0.out) h3
      have g6 : ∀ w3 : World, w3.heap[w.heap.size]? = wr.heap[w.heap.size]? → w3.cell? ⟨w.heap.size, k * 6 + 4 + 1, none⟩ = some (.int .i64 (m.row k).z.hi) := fun _ h => MatAt.row_zhi (h.trans R0.out) h3
      have g7 : ∀ w3 : World, w3.heap[w.heap.size]? = wr.heap[w.heap.size]? → w3.cell? ⟨w.heap.size, k * 6 + 5, none⟩ = some (.int .i64 (m.row k).z.hi) := fun _ h => MatAt.row_zhi (h.trans R0.out) h3
      have k0 : ∀ w3 : World, w3.heap[w.heap.size + 1]? = wr.heap[w.heap.size + 1]? → w3.cell? ⟨w.heap.size + 1, 0, none⟩ = some (.int .i64 v.x.lo) := fun _ h => VecAt.c0 (x := v) (h.trans R1.out)
      have k1 : ∀ w3 : World, w3.heap[w.heap.size + 1]? = wr.heap[w.heap.size + 1]? → w3.cell? ⟨w.heap.size + 1, 1, none⟩ = some (.int .i64 v.x.hi) := fun _ h => VecAt.c1 (x := v) (h.trans R1.out)
      have k2 : ∀ w3 : World, w3.heap[w.heap.size + 1]? = wr.heap[w.heap.size + 1]? → w3.cell? ⟨w.heap.size + 1, 2, none⟩ = some (.int .i64 v.y.lo) := fun _ h => VecAt.c2 (x := v) (h.trans R1.out)
      have k3 : ∀ w3 : World, w3.heap[w.heap.size + 1]? = wr.heap[w.heap.size + 1]? → w3.cell? ⟨w.heap.size + 1, 3, none⟩ = some (.int .i64 v.y.hi) := fun _ h => VecAt.c3 (x := v) (h.trans R1.out)
      have k4 : ∀ w3 : World, w3.heap[w.heap.size + 1]? = wr.heap[w.heap.size + 1]? → w3.cell? ⟨w.heap.size + 1, 4, none⟩ = some (.int .i64 v.z.lo) := fun _ h => VecAt.c4 (x := v) (h.trans R1.out)
      have k5 : ∀ w3 : World, w3.heap[w.heap.size + 1]? = wr.heap[w.heap.size + 1]? → w3.cell? ⟨w.heap.size + 1, 5, none⟩ = some (.int .i64 v.z.hi) := fun _ h => VecAt.c5 (x := v) (h.trans R1.out)
      have hR := r3.drew
      have hT := r2.drew
      have hB : Below wr.heap.size wr wr.drew := (Below.refl _ _).drew
      clear r0 r1 r2 r3
      go_wp2_with fail
      refine wp_region_noPanic ?_
      refine wp_region_held_drew (S := (fun w3 => w3.heap[w.heap.size]? = wr.heap[w.heap.size]? ∧ w3.heap[w.heap.size + 1]? = wr.heap[w.heap.size + 1]?)) (by kernel_rfl) ?_ (fun hHeld => ?_)
      focus (with_reducible first | assumption | exact ⟨heap_drw _ _, heap_drw _ _⟩ | exact ⟨hB.block _ (by omega), hB.block _ (by omega)⟩ | exact ⟨by rw [heap_setCell_other _ _ _ _ (by dsimp only; omega), heap_setCell_other _ _ _ _ (by dsimp only; omega)]; exact hHeld.1, by rw [heap_setCell_other _ _ _ _ (by dsimp only; omega), heap_setCell_other _ _ _ _ (by dsimp only; omega)]; exact hHeld.2⟩)
      refine wpAnyH_take (i := 0) (v := ?_) rfl (by kernel_rfl) (by kernel_rfl) (by kernel_rfl) (fun _ _ _ h => h) (Or.inl ⟨by rfl, ?_⟩) (by assumption) ?_; rotate_left; (focus (intro w hSw; (try dsimp only at hSw); go_simp; try with_reducible rfl)); (try simp only [Act.put, List.getElem_toArray, List.getElem_cons_succ, List.getElem_cons_zero, List.setIfInBounds_toArray, List.set_cons_zero, List.set_cons_succ])
      refine wpAnyH_take (i := 1) (v := ?_) rfl (by kernel_rfl) (by kernel_rfl) (by kernel_rfl) (fun _ _ _ h => h) (Or.inl ⟨by rfl, ?_⟩) (by assumption) ?_; rotate_left; (focus (intro w hSw; (try dsimp only at hSw); go_simp; try with_reducible rfl)); (try simp only [Act.put, List.getElem_toArray, List.getElem_cons_succ, List.getElem_cons_zero, List.setIfInBounds_toArray, List.set_cons_zero, List.set_cons_succ])
      refine wpAnyH_take (i := 2) (v := ?_) rfl (by kernel_rfl) (by kernel_rfl) (by kernel_rfl) (fun _ _ _ h => h) (Or.inl ⟨by rfl, ?_⟩) (by assumption) ?_; rotate_left; (focus (intro w hSw; (try dsimp only at hSw); go_simp; try with_reducible rfl)); (try simp only [Act.put, List.getElem_toArray, List.getElem_cons_succ, List.getElem_cons_zero, List.setIfInBounds_toArray, List.set_cons_zero, List.set_cons_succ])
      refine wpAnyH_take (i := 3) (v := ?_) rfl (by kernel_rfl) (by kernel_rfl) (by kernel_rfl) (fun _ _ _ h => h) (Or.inl ⟨by rfl, ?_⟩) (by assumption) ?_; rotate_left; (focus (intro w hSw; (try dsimp only at hSw); go_simp; try with_reducible rfl)); (try simp only [Act.put, List.getElem_toArray, List.getElem_cons_succ, List.getElem_cons_zero, List.setIfInBounds_toArray, List.set_cons_zero, List.set_cons_succ])
      refine wpAnyH_take (i := 4) (v := ?_) rfl (by kernel_rfl) (by kernel_rfl) (by kernel_rfl) (fun _ _ _ h => h) (Or.inl ⟨by rfl, ?_⟩) (by assumption) ?_; rotate_left; (focus (intro w hSw; (try dsimp only at hSw); go_simp; try with_reducible rfl)); (try simp only [Act.put, List.getElem_toArray, List.getElem_cons_succ, List.getElem_cons_zero, List.setIfInBounds_toArray, List.set_cons_zero, List.set_cons_succ])
      refine wpAnyH_take (i := 5) (v := ?_) rfl (by kernel_rfl) (by kernel_rfl) (by kernel_rfl) (fun _ _ _ h => h) (Or.inl ⟨by rfl, ?_⟩) (by assumption) ?_; rotate_left; (focus (intro w hSw; (try dsimp only at hSw); go_simp; try with_reducible rfl)); (try simp only [Act.put, List.getElem_toArray, List.getElem_cons_succ, List.getElem_cons_zero, List.setIfInBounds_toArray, List.set_cons_zero, List.set_cons_succ])
      refine wpAnyH_take (i := 6) (v := ?_) rfl (by kernel_rfl) (by kernel_rfl) (by kernel_rfl) (fun _ _ _ h => h) (Or.inl ⟨by rfl, ?_⟩) (by assumption) ?_; rotate_left; (focus (intro w hSw; (try dsimp only at hSw); go_simp; try with_reducible rfl)); (try simp only [Act.put, List.getElem_toArray, List.getElem_cons_succ, List.getElem_cons_zero, List.setIfInBounds_toArray, List.set_cons_zero, List.set_cons_succ])
      refine wpAnyH_take (i := 8) (v := ?_) rfl (by kernel_rfl) (by kernel_rfl) (by kernel_rfl) (fun _ _ _ h => h) (Or.inl ⟨by rfl, ?_⟩) (by assumption) ?_; rotate_left; (focus (intro w hSw; (try dsimp only at hSw); go_simp; try with_reducible rfl)); (try simp only [Act.put, List.getElem_toArray, List.getElem_cons_succ, List.getElem_cons_zero, List.setIfInBounds_toArray, List.set_cons_zero, List.set_cons_succ])
      refine wpAnyH_take (i := 9) (v := ?_) rfl (by kernel_rfl) (by kernel_rfl) (by kernel_rfl) (fun _ _ _ h => h) (Or.inl ⟨by rfl, ?_⟩) (by assumption) ?_; rotate_left; (focus (intro w hSw; (try dsimp only at hSw); go_simp; try with_reducible rfl)); (try simp only [Act.put, List.getElem_toArray, List.getElem_cons_succ, List.getElem_cons_zero, List.setIfInBounds_toArray, List.set_cons_zero, List.set_cons_succ])
      refine wpAnyH_take (i := 10) (v := ?_) rfl (by kernel_rfl) (by kernel_rfl) (by kernel_rfl) (fun _ _ _ h => h) (Or.inl ⟨by rfl, ?_⟩) (by assumption) ?_; rotate_left; (focus (intro w hSw; (try dsimp only at hSw); go_simp; try with_reducible rfl)); (try simp only [Act.put, List.getElem_toArray, List.getElem_cons_succ, List.getElem_cons_zero, List.setIfInBounds_toArray, List.set_cons_zero, List.set_cons_succ])
      refine wpAnyH_take (i := 11) (v := ?_) rfl (by kernel_rfl) (by kernel_rfl) (by kernel_rfl) (fun _ _ _ h => h) (Or.inl ⟨by rfl, ?_⟩) (by assumption) ?_; rotate_left; (focus (intro w hSw; (try dsimp only at hSw); go_simp; try with_reducible rfl)); (try simp only [Act.put, List.getElem_toArray, List.getElem_cons_succ, List.getElem_cons_zero, List.setIfInBounds_toArray, List.set_cons_zero, List.set_cons_succ])
      refine wpAnyH_take (i := 12) (v := ?_) rfl (by kernel_rfl) (by kernel_rfl) (by kernel_rfl) (fun _ _ _ h => h) (Or.inl ⟨by rfl, ?_⟩) (by assumption) ?_; rotate_left; (focus (intro w hSw; (try dsimp only at hSw); go_simp; try with_reducible rfl)); (try simp only [Act.put, List.getElem_toArray, List.getElem_cons_succ, List.getElem_cons_zero, List.setIfInBounds_toArray, List.set_cons_zero, List.set_cons_succ])
      refine wpAnyH_take (i := 13) (v := ?_) rfl (by kernel_rfl) (by kernel_rfl) (by kernel_rfl) (fun _ _ _ h => h) (Or.inl ⟨by rfl, ?_⟩) (by assumption) ?_; rotate_left; (focus (intro w hSw; (try dsimp only at hSw); go_simp; try with_reducible rfl)); (try simp only [Act.put, List.getElem_toArray, List.getElem_cons_succ, List.getElem_cons_zero, List.setIfInBounds_toArray, List.set_cons_zero, List.set_cons_succ])
      refine wpAnyH_take (i := 16) (v := ?_) rfl (by kernel_rfl) (by kernel_rfl) (by kernel_rfl) (fun _ _ _ h => h) (Or.inl ⟨by rfl, ?_⟩) (by assumption) ?_; rotate_left; (focus (intro w hSw; (try dsimp only at hSw); go_simp; try with_reducible rfl)); (try simp only [Act.put, List.getElem_toArray, List.getElem_cons_succ, List.getElem_cons_zero, List.setIfInBounds_toArray, List.set_cons_zero, List.set_cons_succ])
      refine wpAnyH_take (i := 17) (v := ?_) rfl (by kernel_rfl) (by kernel_rfl) (by kernel_rfl) (fun _ _ _ h => h) (Or.inl ⟨by rfl, ?_⟩) (by assumption) ?_; rotate_left; (focus (intro w hSw; (try dsimp only at hSw); go_simp; try with_reducible rfl)); (try simp only [Act.put, List.getElem_toArray, List.getElem_cons_succ, List.getElem_cons_zero, List.setIfInBounds_toArray, List.set_cons_zero, List.set_cons_succ])
      refine wpAnyH_take (i := 18) (v := ?_) rfl (by kernel_rfl) (by kernel_rfl) (by kernel_rfl) (fun _ _ _ h => h) (Or.inl ⟨by rfl, ?_⟩) (by assumption) ?_; rotate_left; (focus (intro w hSw; (try dsimp only at hSw); go_simp; try with_reducible rfl)); (try simp only [Act.put, List.getElem_toArray, List.getElem_cons_succ, List.getElem_cons_zero, List.setIfInBounds_toArray, List.set_cons_zero, List.set_cons_succ])
      refine wpAnyH_take (i := 19) (v := ?_) rfl (by kernel_rfl) (by kernel_rfl) (by kernel_rfl) (fun _ _ _ h => h) (Or.inl ⟨by rfl, ?_⟩) (by assumption) ?_; rotate_left; (focus (intro w hSw; (try dsimp only at hSw); go_simp; try with_reducible rfl)); (try simp only [Act.put, List.getElem_toArray, List.getElem_cons_succ, List.getElem_cons_zero, List.setIfInBounds_toArray, List.set_cons_zero, List.set_cons_succ])
      refine wpAnyH_take (i := 20) (v := ?_) rfl (by kernel_rfl) (by kernel_rfl) (by kernel_rfl) (fun _ _ _ h => h) (Or.inl ⟨by rfl, ?_⟩) (by assumption) ?_; rotate_left; (focus (intro w hSw; (try dsimp only at hSw); go_simp; try with_reducible rfl)); (try simp only [Act.put, List.getElem_toArray, List.getElem_cons_succ, List.getElem_cons_zero, List.setIfInBounds_toArray, List.set_cons_zero, List.set_cons_succ])
      refine wpAnyH_take (i := 21) (v := ?_) rfl (by kernel_rfl) (by kernel_rfl) (by kernel_rfl) (fun _ _ _ h => h) (Or.inl ⟨by rfl, ?_⟩) (by assumption) ?_; rotate_left; (focus (intro w hSw; (try dsimp only at hSw); go_simp; try with_reducible rfl)); (try simp only [Act.put, List.getElem_toArray, List.getElem_cons_succ, List.getElem_cons_zero, List.setIfInBounds_toArray, List.set_cons_zero, List.set_cons_succ])
      refine wpAnyH_ready (rs := [7]) (by kernel_rfl) (by simp) (AllReadyH.cons rfl (fun K hK => ?_) AllReadyH.nil); go_simp; ((go_at_call 69; refine (rMul_any _ _ _).mono ?_; rintro e w' ⟨rfl, hb2⟩); have hR2 := hR.below hb2; clear hR; have hR := hR2; clear hR2; have hT2 := hT.below hb2; clear hT; have hT := hT2; clear hT2; have hb3 := below_next hb2 hB; clear hB; have hB := hb3; clear hb3 hb2); go_wp2_with fail; refine hK.out _ _ ?_ (fun hHeld => ?_); (focus (with_reducible first | assumption | exact ⟨heap_drw _ _, heap_drw _ _⟩ | exact ⟨hB.block _ (by omega), hB.block _ (by omega)⟩ | exact ⟨by rw [heap_setCell_other _ _ _ _ (by dsimp only; omega), heap_setCell_other _ _ _ _ (by dsimp only; omega)]; exact hHeld.1, by rw [heap_setCell_other _ _ _ _ (by dsimp only; omega), heap_setCell_other _ _ _ _ (by dsimp only; omega)]; exact hHeld.2⟩)); clear hK K; (try simp only [Act.put, List.getElem_toArray, List.getElem_cons_succ, List.getElem_cons_zero, List.setIfInBounds_toArray, List.set_cons_zero, List.set_cons_succ])
      refine wpAnyH_ready (rs := [14]) (by kernel_rfl) (by simp) (AllReadyH.cons rfl (fun K hK => ?_) AllReadyH.nil); go_simp; ((go_at_call 69; refine (rMul_any _ _ _).mono ?_; rintro e w' ⟨rfl, hb2⟩); have hR2 := hR.below hb2; clear hR; have hR := hR2; clear hR2; have hT2 := hT.below hb2; clear hT; have hT := hT2; clear hT2; have hb3 := below_next hb2 hB; clear hB; have hB := hb3; clear hb3 hb2); go_wp2_with fail; refine hK.out _ _ ?_ (fun hHeld => ?_); (focus (with_reducible first | assumption | exact ⟨heap_drw _ _, heap_drw _ _⟩ | exact ⟨hB.block _ (by omega), hB.block _ (by omega)⟩ | exact ⟨by rw [heap_setCell_other _ _ _ _ (by dsimp only; omega), heap_setCell_other _ _ _ _ (by dsimp only; omega)]; exact hHeld.1, by rw [heap_setCell_other _ _ _ _ (by dsimp only; omega), heap_setCell_other _ _ _ _ (by dsimp only; omega)]; exact hHeld.2⟩)); clear hK K; (try simp only [Act.put, List.getElem_toArray, List.getElem_cons_succ, List.getElem_cons_zero, List.setIfInBounds_toArray, List.set_cons_zero, List.set_cons_succ])
      refine wpAnyH_ready (rs := [15]) (by kernel_rfl) (by simp) (AllReadyH.cons rfl (fun K hK => ?_) AllReadyH.nil); go_simp; ((go_at_call 60; refine (rAdd_any _ _ _).mono ?_; rintro e w' ⟨rfl, hb2⟩); have hR2 := hR.below hb2; clear hR; have hR := hR2; clear hR2; have hT2 := hT.below hb2; clear hT; have hT := hT2; clear hT2; have hb3 := below_next hb2 hB; clear hB; have hB := hb3; clear hb3 hb2); go_wp2_with fail; refine hK.out _ _ ?_ (fun hHeld => ?_); (focus (with_reducible first | assumption | exact ⟨heap_drw _ _, heap_drw _ _⟩ | exact ⟨hB.block _ (by omega), hB.block _ (by omega)⟩ | exact ⟨by rw [heap_setCell_other _ _ _ _ (by dsimp only; omega), heap_setCell_other _ _ _ _ (by dsimp only; omega)]; exact hHeld.1, by rw [heap_setCell_other _ _ _ _ (by dsimp only; omega), heap_setCell_other _ _ _ _ (by dsimp only; omega)]; exact hHeld.2⟩)); clear hK K; (try simp only [Act.put, List.getElem_toArray, List.getElem_cons_succ, List.getElem_cons_zero, List.setIfInBounds_toArray, List.set_cons_zero, List.set_cons_succ])
      refine wpAnyH_ready (rs := [22]) (by kernel_rfl) (by simp) (AllReadyH.cons rfl (fun K hK => ?_) AllReadyH.nil); go_simp; ((go_at_call 69; refine (rMul_any _ _ _).mono ?_; rintro e w' ⟨rfl, hb2⟩); have hR2 := hR.below hb2; clear hR; have hR := hR2; clear hR2; have hT2 := hT.below hb2; clear hT; have hT := hT2; clear hT2; have hb3 := below_next hb2 hB; clear hB; have hB := hb3; clear hb3 hb2); go_wp2_with fail; refine hK.out _ _ ?_ (fun hHeld => ?_); (focus (with_reducible first | assumption | exact ⟨heap_drw _ _, heap_drw _ _⟩ | exact ⟨hB.block _ (by omega), hB.block _ (by omega)⟩ | exact ⟨by rw [heap_setCell_other _ _ _ _ (by dsimp only; omega), heap_setCell_other _ _ _ _ (by dsimp only; omega)]; exact hHeld.1, by rw [heap_setCell_other _ _ _ _ (by dsimp only; omega), heap_setCell_other _ _ _ _ (by dsimp only; omega)]; exact hHeld.2⟩)); clear hK K; (try simp only [Act.put, List.getElem_toArray, List.getElem_cons_succ, List.getElem_cons_zero, List.setIfInBounds_toArray, List.set_cons_zero, List.set_cons_succ])
      refine wpAnyH_ready (rs := [23]) (by kernel_rfl) (by simp) (AllReadyH.cons rfl (fun K hK => ?_) AllReadyH.nil); go_simp; ((go_at_call 60; refine (rAdd_any _ _ _).mono ?_; rintro e w' ⟨rfl, hb2⟩); have hR2 := hR.below hb2; clear hR; have hR := hR2; clear hR2; have hT2 := hT.below hb2; clear hT; have hT := hT2; clear hT2; have hb3 := below_next hb2 hB; clear hB; have hB := hb3; clear hb3 hb2; obtain ⟨d0, d1⟩ := hR.at0 h3; have d2 := hR.free (k * 2); have d3 := hR.free (k * 2 + 1)); go_wp2_with fail; refine hK.out _ _ ?_ (fun hHeld => ?_); (focus (with_reducible first | assumption | exact ⟨heap_drw _ _, heap_drw _ _⟩ | exact ⟨hB.block _ (by omega), hB.block _ (by omega)⟩ | exact ⟨by rw [heap_setCell_other _ _ _ _ (by dsimp only; omega), heap_setCell_other _ _ _ _ (by dsimp only; omega)]; exact hHeld.1, by rw [heap_setCell_other _ _ _ _ (by dsimp only; omega), heap_setCell_other _ _ _ _ (by dsimp only; omega)]; exact hHeld.2⟩)); clear hK K; (try simp only [Act.put, List.getElem_toArray, List.getElem_cons_succ, List.getElem_cons_zero, List.setIfInBounds_toArray, List.set_cons_zero, List.set_cons_succ])
      refine wpAnyH_take (i := 24) (v := ?_) rfl (by kernel_rfl) (by kernel_rfl) (by kernel_rfl) (fun _ _ _ h => h) (Or.inl ⟨by rfl, ?_⟩) (by assumption) ?_; rotate_left; (focus (intro w hSw; (try dsimp only at hSw); go_simp; try with_reducible rfl)); (try simp only [Act.put, List.getElem_toArray, List.getElem_cons_succ, List.getElem_cons_zero, List.setIfInBounds_toArray, List.set_cons_zero, List.set_cons_succ])
      refine wpAnyH_ready (rs := [25]) (by kernel_rfl) (by simp) (AllReadyH.cons rfl (fun K hK => ?_) AllReadyH.nil); go_simp; refine hK.out _ _ ?_ (fun hHeld => ?_); (focus (with_reducible first | assumption | exact ⟨heap_drw _ _, heap_drw _ _⟩ | exact ⟨hB.block _ (by omega), hB.block _ (by omega)⟩ | exact ⟨by rw [heap_setCell_other _ _ _ _ (by dsimp only; omega), heap_setCell_other _ _ _ _ (by dsimp only; omega)]; exact hHeld.1, by rw [heap_setCell_other _ _ _ _ (by dsimp only; omega), heap_setCell_other _ _ _ _ (by dsimp only; omega)]; exact hHeld.2⟩)); clear hK K; (try simp only [Act.put, List.getElem_toArray, List.getElem_cons_succ, List.getElem_cons_zero, List.setIfInBounds_toArray, List.set_cons_zero, List.set_cons_succ])
      refine wpAnyH_done (by kernel_rfl) ?_ _
      refine NoPanic.normal ?_
      go_wp2_with fail
      go_roundw
      case rel =>
        refine ⟨k + 1, by omega, by go_num, ?_, ?_, ?_, ?_, ?_⟩
        · exact (hHeld.1.trans R0.out : _)
        · exact (hHeld.2.trans R1.out : _)
        · exact (hT.far (by omega)).far (by omega)
        · exact hR.put_at h3 (app_at m v h3)
        · exact Below.setCell (Below.setCell (below_next hB hb) (by dsimp only; omega) _) (by dsimp only; omega) _
      case measure => simp [intOf]; omega
    · obtain rfl : k = 3 := by omega
      rw [upto3] at r3
      have hst := store_vec (P := Try.prog) (appM m v) r2
      go_wp2_with (first | (refine wpList_load_row rfl 31 _ rfl (w.heap.size + 1 + 1 + 1) rfl 31 _ (0, 0) _ r3 under_vec rfl info_vec ?_))
      (try simp only [Exit.inBlock, Exit.then])
      refine bodyPost_ret (v := .agg (vecC (appM m v))) ?_ rfl ⟨rfl, setRow_below hb (by omega) _⟩
      exact results_cell_row rfl _ _ (w.heap.size + 1 + 1) 31 _ (0, 0) _ rfl (r2.put _) under_vec rfl info_vec
end Go.Proofs.Ytdaeacakgpjjgaa
