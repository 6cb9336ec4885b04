/- Proved: small facts on blocks that hold a vector or a matrix of intervals; the reference's functions of vectors return what their namesakes in Mat1 compute, and turn nothing that was there before; the reference's product of a matrix and a vector; the reference's transposed matrix and product of matrices; the reference's product of matrices; the reference's tests of parts of vectors and matrices. Conditions: as each theorem states. -/
import Derived.Test.YtdplgiccpjlelaaAngO
import Derived.Test.YtdplgiccpjlelaaMat5
import Derived.Test.YtdplgiccpjlelaaIvK
import Derived.Test.YtdplgiccpjlelaaAngC
import Derived.Deep.RegionHeld3
import Derived.LoopTactic
import Derived.Test.YtdplgiccpjlelaaIvG
import Derived.Deep.DeepCutAuto
import Derived.Test.YtdplgiccpjlelaaIvH
namespace Go.Proofs.Ytdplgiccpjlelaa
open Go.RowKit

def vecC (v : V3) : Array Value := #[.int .i64 v.x.lo, .int .i64 v.x.hi, .int .i64 v.y.lo, .int .i64 v.y.hi, .int .i64 v.z.lo, .int .i64 v.z.hi]
/-- Block b holds v, and may be written. -/
def VecAt (W : World) (b : Nat) (v : V3) : Prop := W.heap[b]? = some (.cells (vecC v) 27 (0, 0))
theorem VecAt.lt {W : World} {b : Nat} {x : V3} (h : VecAt W b x) : b < W.heap.size := lt_heap h
theorem VecAt.below {W V : World} {b : Nat} {x : V3} (h : VecAt W b x) (hb : Below W.heap.size W V) : VecAt V b x := heap_up hb h.lt h
theorem VecAt.drew {W : World} {b : Nat} {x : V3} (h : VecAt W b x) : VecAt W.drew b x := h
theorem VecAt.alloc {W : World} {b : Nat} {x : V3} (h : VecAt W b x) (o : Obj) : VecAt (W.alloc o) b x := (Go.Deep.blk_alloc_lt _ _ _ h.lt).trans h
theorem VecAt.new (W : World) (v : V3) : VecAt (W.alloc (.cells #[.int .i64 v.x.lo, .int .i64 v.x.hi, .int .i64 v.y.lo, .int .i64 v.y.hi, .int .i64 v.z.lo, .int .i64 v.z.hi] 27)) W.heap.size v := heap_alloc_new _ _
theorem VecAt.at_new {V : World} {b : Nat} {v : V3} (hb : V.heap.size = b) : VecAt (V.alloc (.cells #[.int .i64 v.x.lo, .int .i64 v.x.hi, .int .i64 v.y.lo, .int .i64 v.y.hi, .int .i64 v.z.lo, .int .i64 v.z.hi] 27)) b v := by subst hb; exact heap_alloc_new _ _
theorem VecAt.far {W : World} {b q k : Nat} {x : V3} {v : Value} (h : VecAt W b x) (hq : b ≠ q) : VecAt (W.setCell ⟨q, k, none⟩ v) b x := (heap_setCell_other _ _ _ _ hq).trans h
theorem VecAt.row {W : World} {b q : Nat} {x : V3} {c : Array Value} (h : VecAt W b x) (hq : b ≠ q) : VecAt (W.setRow q c) b x := heap_far h hq
theorem VecAt.put {W : World} {b : Nat} {x : V3} (h : VecAt W b x) (y : V3) : VecAt (W.setRow b (vecC y)) b y := setRow_heap _ _ _ _ _ _ h
theorem VecAt.free {W : World} {b : Nat} {x : V3} (h : VecAt W b x) (k : Nat) : W.frozen? ⟨b, k, none⟩ = false := frozen_of_row W b k _ _ h
theorem VecAt.c0 {W : World} {b : Nat} {x : V3} (h : VecAt W b x) : W.cell? ⟨b, 0, none⟩ = some (.int .i64 x.x.lo) := by rw [cell_of_row W b 0 _ _ _ h]; rfl
theorem VecAt.c1 {W : World} {b : Nat} {x : V3} (h : VecAt W b x) : W.cell? ⟨b, 1, none⟩ = some (.int .i64 x.x.hi) := by rw [cell_of_row W b 1 _ _ _ h]; rfl
theorem VecAt.c2 {W : World} {b : Nat} {x : V3} (h : VecAt W b x) : W.cell? ⟨b, 2, none⟩ = some (.int .i64 x.y.lo) := by rw [cell_of_row W b 2 _ _ _ h]; rfl
theorem VecAt.c3 {W : World} {b : Nat} {x : V3} (h : VecAt W b x) : W.cell? ⟨b, 3, none⟩ = some (.int .i64 x.y.hi) := by rw [cell_of_row W b 3 _ _ _ h]; rfl
theorem VecAt.c4 {W : World} {b : Nat} {x : V3} (h : VecAt W b x) : W.cell? ⟨b, 4, none⟩ = some (.int .i64 x.z.lo) := by rw [cell_of_row W b 4 _ _ _ h]; rfl
theorem VecAt.c5 {W : World} {b : Nat} {x : V3} (h : VecAt W b x) : W.cell? ⟨b, 5, none⟩ = some (.int .i64 x.z.hi) := by rw [cell_of_row W b 5 _ _ _ h]; rfl
set_option maxHeartbeats 3200000 in
theorem VecAt.stores {W : World} {b : Nat} {x : V3} (h : VecAt W b x) (y : V3) : ((((((W.setCell ⟨b, 0, none⟩ (.int .i64 y.x.lo)).setCell ⟨b, 1, none⟩ (.int .i64 y.x.hi)).setCell ⟨b, 2, none⟩ (.int .i64 y.y.lo)).setCell ⟨b, 3, none⟩ (.int .i64 y.y.hi)).setCell ⟨b, 4, none⟩ (.int .i64 y.z.lo)).setCell ⟨b, 5, none⟩ (.int .i64 y.z.hi)) = W.setRow b (vecC y) := by
  have e0 := h
  unfold VecAt vecC at e0
  rw [setCell_eq_setRow _ b 0 _ _ _ (.int .i64 y.x.lo) e0]
  rw [setCell_eq_setRow _ b 1 _ _ _ (.int .i64 y.x.hi) (setRow_heap _ _ _ _ _ _ e0), setRow_setRow]
  rw [setCell_eq_setRow _ b 2 _ _ _ (.int .i64 y.y.lo) (setRow_heap _ _ _ _ _ _ e0), setRow_setRow]
  rw [setCell_eq_setRow _ b 3 _ _ _ (.int .i64 y.y.hi) (setRow_heap _ _ _ _ _ _ e0), setRow_setRow]
  rw [setCell_eq_setRow _ b 4 _ _ _ (.int .i64 y.z.lo) (setRow_heap _ _ _ _ _ _ e0), setRow_setRow]
  rw [setCell_eq_setRow _ b 5 _ _ _ (.int .i64 y.z.hi) (setRow_heap _ _ _ _ _ _ e0), setRow_setRow]
  exact congrArg (World.setRow W b) (by kernel_rfl)
def matC (v : M3) : Array Value := #[.int .i64 v.x.x.lo, .int .i64 v.x.x.hi, .int .i64 v.x.y.lo, .int .i64 v.x.y.hi, .int .i64 v.x.z.lo, .int .i64 v.x.z.hi, .int .i64 v.y.x.lo, .int .i64 v.y.x.hi, .int .i64 v.y.y.lo, .int .i64 v.y.y.hi, .int .i64 v.y.z.lo, .int .i64 v.y.z.hi, .int .i64 v.z.x.lo, .int .i64 v.z.x.hi, .int .i64 v.z.y.lo, .int .i64 v.z.y.hi, .int .i64 v.z.z.lo, .int .i64 v.z.z.hi]
/-- Block b holds v, and may be written. -/
def MatAt (W : World) (b : Nat) (v : M3) : Prop := W.heap[b]? = some (.cells (matC v) 26 (0, 0))
theorem MatAt.lt {W : World} {b : Nat} {x : M3} (h : MatAt W b x) : b < W.heap.size := lt_heap h
theorem MatAt.below {W V : World} {b : Nat} {x : M3} (h : MatAt W b x) (hb : Below W.heap.size W V) : MatAt V b x := heap_up hb h.lt h
theorem MatAt.drew {W : World} {b : Nat} {x : M3} (h : MatAt W b x) : MatAt W.drew b x := h
theorem MatAt.alloc {W : World} {b : Nat} {x : M3} (h : MatAt W b x) (o : Obj) : MatAt (W.alloc o) b x := (Go.Deep.blk_alloc_lt _ _ _ h.lt).trans h
theorem MatAt.new (W : World) (v : M3) : MatAt (W.alloc (.cells #[.int .i64 v.x.x.lo, .int .i64 v.x.x.hi, .int .i64 v.x.y.lo, .int .i64 v.x.y.hi, .int .i64 v.x.z.lo, .int .i64 v.x.z.hi, .int .i64 v.y.x.lo, .int .i64 v.y.x.hi, .int .i64 v.y.y.lo, .int .i64 v.y.y.hi, .int .i64 v.y.z.lo, .int .i64 v.y.z.hi, .int .i64 v.z.x.lo, .int .i64 v.z.x.hi, .int .i64 v.z.y.lo, .int .i64 v.z.y.hi, .int .i64 v.z.z.lo, .int .i64 v.z.z.hi] 26)) W.heap.size v := heap_alloc_new _ _
theorem MatAt.at_new {V : World} {b : Nat} {v : M3} (hb : V.heap.size = b) : MatAt (V.alloc (.cells #[.int .i64 v.x.x.lo, .int .i64 v.x.x.hi, .int .i64 v.x.y.lo, .int .i64 v.x.y.hi, .int .i64 v.x.z.lo, .int .i64 v.x.z.hi, .int .i64 v.y.x.lo, .int .i64 v.y.x.hi, .int .i64 v.y.y.lo, .int .i64 v.y.y.hi, .int .i64 v.y.z.lo, .int .i64 v.y.z.hi, .int .i64 v.z.x.lo, .int .i64 v.z.x.hi, .int .i64 v.z.y.lo, .int .i64 v.z.y.hi, .int .i64 v.z.z.lo, .int .i64 v.z.z.hi] 26)) b v := by subst hb; exact heap_alloc_new _ _
theorem MatAt.far {W : World} {b q k : Nat} {x : M3} {v : Value} (h : MatAt W b x) (hq : b ≠ q) : MatAt (W.setCell ⟨q, k, none⟩ v) b x := (heap_setCell_other _ _ _ _ hq).trans h
theorem MatAt.row {W : World} {b q : Nat} {x : M3} {c : Array Value} (h : MatAt W b x) (hq : b ≠ q) : MatAt (W.setRow q c) b x := heap_far h hq
theorem MatAt.put {W : World} {b : Nat} {x : M3} (h : MatAt W b x) (y : M3) : MatAt (W.setRow b (matC y)) b y := setRow_heap _ _ _ _ _ _ h
theorem MatAt.free {W : World} {b : Nat} {x : M3} (h : MatAt W b x) (k : Nat) : W.frozen? ⟨b, k, none⟩ = false := frozen_of_row W b k _ _ h
theorem MatAt.c0 {W : World} {b : Nat} {x : M3} (h : MatAt W b x) : W.cell? ⟨b, 0, none⟩ = some (.int .i64 x.x.x.lo) := by rw [cell_of_row W b 0 _ _ _ h]; rfl
theorem MatAt.c1 {W : World} {b : Nat} {x : M3} (h : MatAt W b x) : W.cell? ⟨b, 1, none⟩ = some (.int .i64 x.x.x.hi) := by rw [cell_of_row W b 1 _ _ _ h]; rfl
theorem MatAt.c2 {W : World} {b : Nat} {x : M3} (h : MatAt W b x) : W.cell? ⟨b, 2, none⟩ = some (.int .i64 x.x.y.lo) := by rw [cell_of_row W b 2 _ _ _ h]; rfl
theorem MatAt.c3 {W : World} {b : Nat} {x : M3} (h : MatAt W b x) : W.cell? ⟨b, 3, none⟩ = some (.int .i64 x.x.y.hi) := by rw [cell_of_row W b 3 _ _ _ h]; rfl
theorem MatAt.c4 {W : World} {b : Nat} {x : M3} (h : MatAt W b x) : W.cell? ⟨b, 4, none⟩ = some (.int .i64 x.x.z.lo) := by rw [cell_of_row W b 4 _ _ _ h]; rfl
theorem MatAt.c5 {W : World} {b : Nat} {x : M3} (h : MatAt W b x) : W.cell? ⟨b, 5, none⟩ = some (.int .i64 x.x.z.hi) := by rw [cell_of_row W b 5 _ _ _ h]; rfl
theorem MatAt.c6 {W : World} {b : Nat} {x : M3} (h : MatAt W b x) : W.cell? ⟨b, 6, none⟩ = some (.int .i64 x.y.x.lo) := by rw [cell_of_row W b 6 _ _ _ h]; rfl
theorem MatAt.c7 {W : World} {b : Nat} {x : M3} (h : MatAt W b x) : W.cell? ⟨b, 7, none⟩ = some (.int .i64 x.y.x.hi) := by rw [cell_of_row W b 7 _ _ _ h]; rfl
theorem MatAt.c8 {W : World} {b : Nat} {x : M3} (h : MatAt W b x) : W.cell? ⟨b, 8, none⟩ = some (.int .i64 x.y.y.lo) := by rw [cell_of_row W b 8 _ _ _ h]; rfl
theorem MatAt.c9 {W : World} {b : Nat} {x : M3} (h : MatAt W b x) : W.cell? ⟨b, 9, none⟩ = some (.int .i64 x.y.y.hi) := by rw [cell_of_row W b 9 _ _ _ h]; rfl
theorem MatAt.c10 {W : World} {b : Nat} {x : M3} (h : MatAt W b x) : W.cell? ⟨b, 10, none⟩ = some (.int .i64 x.y.z.lo) := by rw [cell_of_row W b 10 _ _ _ h]; rfl
theorem MatAt.c11 {W : World} {b : Nat} {x : M3} (h : MatAt W b x) : W.cell? ⟨b, 11, none⟩ = some (.int .i64 x.y.z.hi) := by rw [cell_of_row W b 11 _ _ _ h]; rfl
theorem MatAt.c12 {W : World} {b : Nat} {x : M3} (h : MatAt W b x) : W.cell? ⟨b, 12, none⟩ = some (.int .i64 x.z.x.lo) := by rw [cell_of_row W b 12 _ _ _ h]; rfl
theorem MatAt.c13 {W : World} {b : Nat} {x : M3} (h : MatAt W b x) : W.cell? ⟨b, 13, none⟩ = some (.int .i64 x.z.x.hi) := by rw [cell_of_row W b 13 _ _ _ h]; rfl
theorem MatAt.c14 {W : World} {b : Nat} {x : M3} (h : MatAt W b x) : W.cell? ⟨b, 14, none⟩ = some (.int .i64 x.z.y.lo) := by rw [cell_of_row W b 14 _ _ _ h]; rfl
theorem MatAt.c15 {W : World} {b : Nat} {x : M3} (h : MatAt W b x) : W.cell? ⟨b, 15, none⟩ = some (.int .i64 x.z.y.hi) := by rw [cell_of_row W b 15 _ _ _ h]; rfl
theorem MatAt.c16 {W : World} {b : Nat} {x : M3} (h : MatAt W b x) : W.cell? ⟨b, 16, none⟩ = some (.int .i64 x.z.z.lo) := by rw [cell_of_row W b 16 _ _ _ h]; rfl
theorem MatAt.c17 {W : World} {b : Nat} {x : M3} (h : MatAt W b x) : W.cell? ⟨b, 17, none⟩ = some (.int .i64 x.z.z.hi) := by rw [cell_of_row W b 17 _ _ _ h]; rfl
set_option maxHeartbeats 3200000 in
theorem MatAt.stores {W : World} {b : Nat} {x : M3} (h : MatAt W b x) (y : M3) : ((((((((((((((((((W.setCell ⟨b, 0, none⟩ (.int .i64 y.x.x.lo)).setCell ⟨b, 1, none⟩ (.int .i64 y.x.x.hi)).setCell ⟨b, 2, none⟩ (.int .i64 y.x.y.lo)).setCell ⟨b, 3, none⟩ (.int .i64 y.x.y.hi)).setCell ⟨b, 4, none⟩ (.int .i64 y.x.z.lo)).setCell ⟨b, 5, none⟩ (.int .i64 y.x.z.hi)).setCell ⟨b, 6, none⟩ (.int .i64 y.y.x.lo)).setCell ⟨b, 7, none⟩ (.int .i64 y.y.x.hi)).setCell ⟨b, 8, none⟩ (.int .i64 y.y.y.lo)).setCell ⟨b, 9, none⟩ (.int .i64 y.y.y.hi)).setCell ⟨b, 10, none⟩ (.int .i64 y.y.z.lo)).setCell ⟨b, 11, none⟩ (.int .i64 y.y.z.hi)).setCell ⟨b, 12, none⟩ (.int .i64 y.z.x.lo)).setCell ⟨b, 13, none⟩ (.int .i64 y.z.x.hi)).setCell ⟨b, 14, none⟩ (.int .i64 y.z.y.lo)).setCell ⟨b, 15, none⟩ (.int .i64 y.z.y.hi)).setCell ⟨b, 16, none⟩ (.int .i64 y.z.z.lo)).setCell ⟨b, 17, none⟩ (.int .i64 y.z.z.hi)) = W.setRow b (matC y) := by
  have e0 := h
  unfold MatAt matC at e0
  rw [setCell_eq_setRow _ b 0 _ _ _ (.int .i64 y.x.x.lo) e0]
  rw [setCell_eq_setRow _ b 1 _ _ _ (.int .i64 y.x.x.hi) (setRow_heap _ _ _ _ _ _ e0), setRow_setRow]
  rw [setCell_eq_setRow _ b 2 _ _ _ (.int .i64 y.x.y.lo) (setRow_heap _ _ _ _ _ _ e0), setRow_setRow]
  rw [setCell_eq_setRow _ b 3 _ _ _ (.int .i64 y.x.y.hi) (setRow_heap _ _ _ _ _ _ e0), setRow_setRow]
  rw [setCell_eq_setRow _ b 4 _ _ _ (.int .i64 y.x.z.lo) (setRow_heap _ _ _ _ _ _ e0), setRow_setRow]
  rw [setCell_eq_setRow _ b 5 _ _ _ (.int .i64 y.x.z.hi) (setRow_heap _ _ _ _ _ _ e0), setRow_setRow]
  rw [setCell_eq_setRow _ b 6 _ _ _ (.int .i64 y.y.x.lo) (setRow_heap _ _ _ _ _ _ e0), setRow_setRow]
  rw [setCell_eq_setRow _ b 7 _ _ _ (.int .i64 y.y.x.hi) (setRow_heap _ _ _ _ _ _ e0), setRow_setRow]
  rw [setCell_eq_setRow _ b 8 _ _ _ (.int .i64 y.y.y.lo) (setRow_heap _ _ _ _ _ _ e0), setRow_setRow]
  rw [setCell_eq_setRow _ b 9 _ _ _ (.int .i64 y.y.y.hi) (setRow_heap _ _ _ _ _ _ e0), setRow_setRow]
  rw [setCell_eq_setRow _ b 10 _ _ _ (.int .i64 y.y.z.lo) (setRow_heap _ _ _ _ _ _ e0), setRow_setRow]
  rw [setCell_eq_setRow _ b 11 _ _ _ (.int .i64 y.y.z.hi) (setRow_heap _ _ _ _ _ _ e0), setRow_setRow]
  rw [setCell_eq_setRow _ b 12 _ _ _ (.int .i64 y.z.x.lo) (setRow_heap _ _ _ _ _ _ e0), setRow_setRow]
  rw [setCell_eq_setRow _ b 13 _ _ _ (.int .i64 y.z.x.hi) (setRow_heap _ _ _ _ _ _ e0), setRow_setRow]
  rw [setCell_eq_setRow _ b 14 _ _ _ (.int .i64 y.z.y.lo) (setRow_heap _ _ _ _ _ _ e0), setRow_setRow]
  rw [setCell_eq_setRow _ b 15 _ _ _ (.int .i64 y.z.y.hi) (setRow_heap _ _ _ _ _ _ e0), setRow_setRow]
  rw [setCell_eq_setRow _ b 16 _ _ _ (.int .i64 y.z.z.lo) (setRow_heap _ _ _ _ _ _ e0), setRow_setRow]
  rw [setCell_eq_setRow _ b 17 _ _ _ (.int .i64 y.z.z.hi) (setRow_heap _ _ _ _ _ _ e0), setRow_setRow]
  exact congrArg (World.setRow W b) (by kernel_rfl)
theorem info_vec : (Try.prog.info? 27).map (·.size) = some 6 := by kernel_rfl
theorem under_vec : Try.prog.underlying 27 = some (.array 3 23) := by kernel_rfl
theorem info_mat : (Try.prog.info? 26).map (·.size) = some 18 := by kernel_rfl
theorem under_mat : Try.prog.underlying 26 = some (.array 3 24) := by kernel_rfl
theorem vec_one (v : V3) : (vecC v).all (·.oneCell') = true := by unfold vecC; simp [Value.oneCell']
theorem mat_one (m : M3) : (matC m).all (·.oneCell') = true := by unfold matC; simp [Value.oneCell']
end Go.Proofs.Ytdplgiccpjlelaa
namespace Go.Proofs.Ytdplgiccpjlelaa
open Go.RowKit

theorem heap_row {b k : Nat} (w : World) (c : Array Value) (hb : k ≠ b) : (w.setRow b c).heap[k]? = w.heap[k]? := setRow_other _ _ _ _ hb
set_option linter.unusedSimpArgs false in
set_option linter.unusedVariables false in
set_option maxRecDepth 100000 in
set_option maxHeartbeats 12800000 in
theorem rAddVec_any (u v : V3) (w : World) :
    Calls Try.prog 32 #[ .agg #[.int .i64 (u).x.lo, .int .i64 (u).x.hi, .int .i64 (u).y.lo, .int .i64 (u).y.hi, .int .i64 (u).z.lo, .int .i64 (u).z.hi], .agg #[.int .i64 (v).x.lo, .int .i64 (v).x.hi, .int .i64 (v).y.lo, .int .i64 (v).y.hi, .int .i64 (v).z.lo, .int .i64 (v).z.hi] ] w fun e w' => e = .returned (.agg #[.int .i64 (addV u v).x.lo, .int .i64 (addV u v).x.hi, .int .i64 (addV u v).y.lo, .int .i64 (addV u v).y.hi, .int .i64 (addV u v).z.lo, .int .i64 (addV u v).z.hi]) ∧ Below w.heap.size w w' := by
  have U0 := Lib.hid (show VecAt (((w.alloc (.cells #[.int .i64 (u).x.lo, .int .i64 (u).x.hi, .int .i64 (u).y.lo, .int .i64 (u).y.hi, .int .i64 (u).z.lo, .int .i64 (u).z.hi] 27)).alloc (.cells #[.int .i64 (v).x.lo, .int .i64 (v).x.hi, .int .i64 (v).y.lo, .int .i64 (v).y.hi, .int .i64 (v).z.lo, .int .i64 (v).z.hi] 27)).alloc (.cells #[.int .i64 0, .int .i64 0, .int .i64 0, .int .i64 0, .int .i64 0, .int .i64 0] 27)) w.heap.size u from ((VecAt.new w u).alloc _).alloc _)
  have V0 := Lib.hid (show VecAt (((w.alloc (.cells #[.int .i64 (u).x.lo, .int .i64 (u).x.hi, .int .i64 (u).y.lo, .int .i64 (u).y.hi, .int .i64 (u).z.lo, .int .i64 (u).z.hi] 27)).alloc (.cells #[.int .i64 (v).x.lo, .int .i64 (v).x.hi, .int .i64 (v).y.lo, .int .i64 (v).y.hi, .int .i64 (v).z.lo, .int .i64 (v).z.hi] 27)).alloc (.cells #[.int .i64 0, .int .i64 0, .int .i64 0, .int .i64 0, .int .i64 0, .int .i64 0] 27)) (w.heap.size + 1) v from VecAt.alloc (VecAt.at_new (by simp)) _)
  have R0 := Lib.hid (show VecAt (((w.alloc (.cells #[.int .i64 (u).x.lo, .int .i64 (u).x.hi, .int .i64 (u).y.lo, .int .i64 (u).y.hi, .int .i64 (u).z.lo, .int .i64 (u).z.hi] 27)).alloc (.cells #[.int .i64 (v).x.lo, .int .i64 (v).x.hi, .int .i64 (v).y.lo, .int .i64 (v).y.hi, .int .i64 (v).z.lo, .int .i64 (v).z.hi] 27)).alloc (.cells #[.int .i64 0, .int .i64 0, .int .i64 0, .int .i64 0, .int .i64 0, .int .i64 0] 27)) (w.heap.size + 1 + 1) zeroV from VecAt.at_new (v := zeroV) (by simp))
  have B0 := Lib.hid (show Below w.heap.size w (((w.alloc (.cells #[.int .i64 (u).x.lo, .int .i64 (u).x.hi, .int .i64 (u).y.lo, .int .i64 (u).y.hi, .int .i64 (u).z.lo, .int .i64 (u).z.hi] 27)).alloc (.cells #[.int .i64 (v).x.lo, .int .i64 (v).x.hi, .int .i64 (v).y.lo, .int .i64 (v).y.hi, .int .i64 (v).z.lo, .int .i64 (v).z.hi] 27)).alloc (.cells #[.int .i64 0, .int .i64 0, .int .i64 0, .int .i64 0, .int .i64 0, .int .i64 0] 27)) from below_alloc (below_alloc (below_alloc (Below.refl _ _) _) _) _)
  go_enter Try.func32, Try.ntmps32
  go_wp2_with fail
  obtain ⟨V, hV⟩ : ∃ V : World, V = (((w.alloc (.cells #[.int .i64 (u).x.lo, .int .i64 (u).x.hi, .int .i64 (u).y.lo, .int .i64 (u).y.hi, .int .i64 (u).z.lo, .int .i64 (u).z.hi] 27)).alloc (.cells #[.int .i64 (v).x.lo, .int .i64 (v).x.hi, .int .i64 (v).y.lo, .int .i64 (v).y.hi, .int .i64 (v).z.lo, .int .i64 (v).z.hi] 27)).alloc (.cells #[.int .i64 0, .int .i64 0, .int .i64 0, .int .i64 0, .int .i64 0, .int .i64 0] 27)) := ⟨_, rfl⟩
  rw [← hV] at U0 V0 R0 B0 ⊢
  clear hV
  have q : w.heap.size + 1 + 1 < V.heap.size := R0.out.lt
  have hb : Below V.heap.size V V.drew := (Below.refl _ _).drew
  have hR := R0.out.drew
  have g0 : ∀ w3 : World, w3.heap[w.heap.size]? = V.heap[w.heap.size]? → w3.cell? ⟨w.heap.size, 0, none⟩ = some (.int .i64 u.x.lo) := fun _ h => VecAt.c0 (x := u) (h.trans U0.out)
  have g1 : ∀ w3 : World, w3.heap[w.heap.size]? = V.heap[w.heap.size]? → w3.cell? ⟨w.heap.size, 1, none⟩ = some (.int .i64 u.x.hi) := fun _ h => VecAt.c1 (x := u) (h.trans U0.out)
  have g2 : ∀ w3 : World, w3.heap[w.heap.size]? = V.heap[w.heap.size]? → w3.cell? ⟨w.heap.size, 2, none⟩ = some (.int .i64 u.y.lo) := fun _ h => VecAt.c2 (x := u) (h.trans U0.out)
  have g3 : ∀ w3 : World, w3.heap[w.heap.size]? = V.heap[w.heap.size]? → w3.cell? ⟨w.heap.size, 3, none⟩ = some (.int .i64 u.y.hi) := fun _ h => VecAt.c3 (x := u) (h.trans U0.out)
  have g4 : ∀ w3 : World, w3.heap[w.heap.size]? = V.heap[w.heap.size]? → w3.cell? ⟨w.heap.size, 4, none⟩ = some (.int .i64 u.z.lo) := fun _ h => VecAt.c4 (x := u) (h.trans U0.out)
  have g5 : ∀ w3 : World, w3.heap[w.heap.size]? = V.heap[w.heap.size]? → w3.cell? ⟨w.heap.size, 5, none⟩ = some (.int .i64 u.z.hi) := fun _ h => VecAt.c5 (x := u) (h.trans U0.out)
  have k0 : ∀ w3 : World, w3.heap[w.heap.size + 1]? = V.heap[w.heap.size + 1]? → w3.cell? ⟨w.heap.size + 1, 0, none⟩ = some (.int .i64 v.x.lo) := fun _ h => VecAt.c0 (x := v) (h.trans V0.out)
  have k1 : ∀ w3 : World, w3.heap[w.heap.size + 1]? = V.heap[w.heap.size + 1]? → w3.cell? ⟨w.heap.size + 1, 1, none⟩ = some (.int .i64 v.x.hi) := fun _ h => VecAt.c1 (x := v) (h.trans V0.out)
  have k2 : ∀ w3 : World, w3.heap[w.heap.size + 1]? = V.heap[w.heap.size + 1]? → w3.cell? ⟨w.heap.size + 1, 2, none⟩ = some (.int .i64 v.y.lo) := fun _ h => VecAt.c2 (x := v) (h.trans V0.out)
  have k3 : ∀ w3 : World, w3.heap[w.heap.size + 1]? = V.heap[w.heap.size + 1]? → w3.cell? ⟨w.heap.size + 1, 3, none⟩ = some (.int .i64 v.y.hi) := fun _ h => VecAt.c3 (x := v) (h.trans V0.out)
  have k4 : ∀ w3 : World, w3.heap[w.heap.size + 1]? = V.heap[w.heap.size + 1]? → w3.cell? ⟨w.heap.size + 1, 4, none⟩ = some (.int .i64 v.z.lo) := fun _ h => VecAt.c4 (x := v) (h.trans V0.out)
  have k5 : ∀ w3 : World, w3.heap[w.heap.size + 1]? = V.heap[w.heap.size + 1]? → w3.cell? ⟨w.heap.size + 1, 5, none⟩ = some (.int .i64 v.z.hi) := fun _ h => VecAt.c5 (x := v) (h.trans V0.out)
  refine wp_region_held_drew (S := (fun w3 => w3.heap[w.heap.size]? = V.heap[w.heap.size]? ∧ w3.heap[w.heap.size + 1]? = V.heap[w.heap.size + 1]?)) (by kernel_rfl) ?_ (fun hHeld => ?_)
  focus (with_reducible first | assumption | exact ⟨heap_drw _ _, heap_drw _ _⟩ | exact ⟨hb.block _ (by omega), hb.block _ (by omega)⟩ | exact ⟨(heap_row _ _ (by omega)).trans hHeld.1, (heap_row _ _ (by omega)).trans hHeld.2⟩)
  refine wpAnyH_take (i := 0) (v := ?_) rfl (by kernel_rfl) (by kernel_rfl) (by kernel_rfl) (fun _ _ _ h => h) (Or.inl ⟨by rfl, ?_⟩) (by assumption) ?_; rotate_left; (focus (intro w hSw; (try dsimp only at hSw); go_simp; try with_reducible rfl)); (try simp only [Act.put, List.getElem_toArray, List.getElem_cons_succ, List.getElem_cons_zero, List.setIfInBounds_toArray, List.set_cons_zero, List.set_cons_succ])
  refine wpAnyH_take (i := 1) (v := ?_) rfl (by kernel_rfl) (by kernel_rfl) (by kernel_rfl) (fun _ _ _ h => h) (Or.inl ⟨by rfl, ?_⟩) (by assumption) ?_; rotate_left; (focus (intro w hSw; (try dsimp only at hSw); go_simp; try with_reducible rfl)); (try simp only [Act.put, List.getElem_toArray, List.getElem_cons_succ, List.getElem_cons_zero, List.setIfInBounds_toArray, List.set_cons_zero, List.set_cons_succ])
  refine wpAnyH_take (i := 2) (v := ?_) rfl (by kernel_rfl) (by kernel_rfl) (by kernel_rfl) (fun _ _ _ h => h) (Or.inl ⟨by rfl, ?_⟩) (by assumption) ?_; rotate_left; (focus (intro w hSw; (try dsimp only at hSw); go_simp; try with_reducible rfl)); (try simp only [Act.put, List.getElem_toArray, List.getElem_cons_succ, List.getElem_cons_zero, List.setIfInBounds_toArray, List.set_cons_zero, List.set_cons_succ])
  refine wpAnyH_take (i := 3) (v := ?_) rfl (by kernel_rfl) (by kernel_rfl) (by kernel_rfl) (fun _ _ _ h => h) (Or.inl ⟨by rfl, ?_⟩) (by assumption) ?_; rotate_left; (focus (intro w hSw; (try dsimp only at hSw); go_simp; try with_reducible rfl)); (try simp only [Act.put, List.getElem_toArray, List.getElem_cons_succ, List.getElem_cons_zero, List.setIfInBounds_toArray, List.set_cons_zero, List.set_cons_succ])
  refine wpAnyH_take (i := 5) (v := ?_) rfl (by kernel_rfl) (by kernel_rfl) (by kernel_rfl) (fun _ _ _ h => h) (Or.inl ⟨by rfl, ?_⟩) (by assumption) ?_; rotate_left; (focus (intro w hSw; (try dsimp only at hSw); go_simp; try with_reducible rfl)); (try simp only [Act.put, List.getElem_toArray, List.getElem_cons_succ, List.getElem_cons_zero, List.setIfInBounds_toArray, List.set_cons_zero, List.set_cons_succ])
  refine wpAnyH_take (i := 6) (v := ?_) rfl (by kernel_rfl) (by kernel_rfl) (by kernel_rfl) (fun _ _ _ h => h) (Or.inl ⟨by rfl, ?_⟩) (by assumption) ?_; rotate_left; (focus (intro w hSw; (try dsimp only at hSw); go_simp; try with_reducible rfl)); (try simp only [Act.put, List.getElem_toArray, List.getElem_cons_succ, List.getElem_cons_zero, List.setIfInBounds_toArray, List.set_cons_zero, List.set_cons_succ])
  refine wpAnyH_take (i := 7) (v := ?_) rfl (by kernel_rfl) (by kernel_rfl) (by kernel_rfl) (fun _ _ _ h => h) (Or.inl ⟨by rfl, ?_⟩) (by assumption) ?_; rotate_left; (focus (intro w hSw; (try dsimp only at hSw); go_simp; try with_reducible rfl)); (try simp only [Act.put, List.getElem_toArray, List.getElem_cons_succ, List.getElem_cons_zero, List.setIfInBounds_toArray, List.set_cons_zero, List.set_cons_succ])
  refine wpAnyH_take (i := 8) (v := ?_) rfl (by kernel_rfl) (by kernel_rfl) (by kernel_rfl) (fun _ _ _ h => h) (Or.inl ⟨by rfl, ?_⟩) (by assumption) ?_; rotate_left; (focus (intro w hSw; (try dsimp only at hSw); go_simp; try with_reducible rfl)); (try simp only [Act.put, List.getElem_toArray, List.getElem_cons_succ, List.getElem_cons_zero, List.setIfInBounds_toArray, List.set_cons_zero, List.set_cons_succ])
  refine wpAnyH_take (i := 10) (v := ?_) rfl (by kernel_rfl) (by kernel_rfl) (by kernel_rfl) (fun _ _ _ h => h) (Or.inl ⟨by rfl, ?_⟩) (by assumption) ?_; rotate_left; (focus (intro w hSw; (try dsimp only at hSw); go_simp; try with_reducible rfl)); (try simp only [Act.put, List.getElem_toArray, List.getElem_cons_succ, List.getElem_cons_zero, List.setIfInBounds_toArray, List.set_cons_zero, List.set_cons_succ])
  refine wpAnyH_take (i := 11) (v := ?_) rfl (by kernel_rfl) (by kernel_rfl) (by kernel_rfl) (fun _ _ _ h => h) (Or.inl ⟨by rfl, ?_⟩) (by assumption) ?_; rotate_left; (focus (intro w hSw; (try dsimp only at hSw); go_simp; try with_reducible rfl)); (try simp only [Act.put, List.getElem_toArray, List.getElem_cons_succ, List.getElem_cons_zero, List.setIfInBounds_toArray, List.set_cons_zero, List.set_cons_succ])
  refine wpAnyH_take (i := 12) (v := ?_) rfl (by kernel_rfl) (by kernel_rfl) (by kernel_rfl) (fun _ _ _ h => h) (Or.inl ⟨by rfl, ?_⟩) (by assumption) ?_; rotate_left; (focus (intro w hSw; (try dsimp only at hSw); go_simp; try with_reducible rfl)); (try simp only [Act.put, List.getElem_toArray, List.getElem_cons_succ, List.getElem_cons_zero, List.setIfInBounds_toArray, List.set_cons_zero, List.set_cons_succ])
  refine wpAnyH_take (i := 13) (v := ?_) rfl (by kernel_rfl) (by kernel_rfl) (by kernel_rfl) (fun _ _ _ h => h) (Or.inl ⟨by rfl, ?_⟩) (by assumption) ?_; rotate_left; (focus (intro w hSw; (try dsimp only at hSw); go_simp; try with_reducible rfl)); (try simp only [Act.put, List.getElem_toArray, List.getElem_cons_succ, List.getElem_cons_zero, List.setIfInBounds_toArray, List.set_cons_zero, List.set_cons_succ])
  refine wpAnyH_ready (rs := [4]) (by kernel_rfl) (by simp) (AllReadyH.cons rfl (fun K hK => ?_) AllReadyH.nil); go_simp; ((go_at_call 52; refine (rAdd_any _ _ _).mono ?_; rintro e w' ⟨rfl, hb2⟩); have hR2 := hR.below hb2; clear hR; have hR := hR2; clear hR2; have hb3 := below_next hb2 hb; clear hb; have hb := hb3; clear hb3 hb2); go_wp2_with fail; refine hK.out _ _ ?_ (fun hHeld => ?_); (focus (with_reducible first | assumption | exact ⟨heap_drw _ _, heap_drw _ _⟩ | exact ⟨hb.block _ (by omega), hb.block _ (by omega)⟩ | exact ⟨(heap_row _ _ (by omega)).trans hHeld.1, (heap_row _ _ (by omega)).trans hHeld.2⟩)); clear hK K; (try simp only [Act.put, List.getElem_toArray, List.getElem_cons_succ, List.getElem_cons_zero, List.setIfInBounds_toArray, List.set_cons_zero, List.set_cons_succ])
  refine wpAnyH_ready (rs := [9]) (by kernel_rfl) (by simp) (AllReadyH.cons rfl (fun K hK => ?_) AllReadyH.nil); go_simp; ((go_at_call 52; refine (rAdd_any _ _ _).mono ?_; rintro e w' ⟨rfl, hb2⟩); have hR2 := hR.below hb2; clear hR; have hR := hR2; clear hR2; have hb3 := below_next hb2 hb; clear hb; have hb := hb3; clear hb3 hb2); go_wp2_with fail; refine hK.out _ _ ?_ (fun hHeld => ?_); (focus (with_reducible first | assumption | exact ⟨heap_drw _ _, heap_drw _ _⟩ | exact ⟨hb.block _ (by omega), hb.block _ (by omega)⟩ | exact ⟨(heap_row _ _ (by omega)).trans hHeld.1, (heap_row _ _ (by omega)).trans hHeld.2⟩)); clear hK K; (try simp only [Act.put, List.getElem_toArray, List.getElem_cons_succ, List.getElem_cons_zero, List.setIfInBounds_toArray, List.set_cons_zero, List.set_cons_succ])
  refine wpAnyH_ready (rs := [14]) (by kernel_rfl) (by simp) (AllReadyH.cons rfl (fun K hK => ?_) AllReadyH.nil); go_simp; ((go_at_call 52; refine (rAdd_any _ _ _).mono ?_; rintro e w' ⟨rfl, hb2⟩); have hR2 := hR.below hb2; clear hR; have hR := hR2; clear hR2; have hb3 := below_next hb2 hb; clear hb; have hb := hb3; clear hb3 hb2); go_wp2_with fail; refine hK.out _ _ ?_ (fun hHeld => ?_); (focus (with_reducible first | assumption | exact ⟨heap_drw _ _, heap_drw _ _⟩ | exact ⟨hb.block _ (by omega), hb.block _ (by omega)⟩ | exact ⟨(heap_row _ _ (by omega)).trans hHeld.1, (heap_row _ _ (by omega)).trans hHeld.2⟩)); clear hK K; (try simp only [Act.put, List.getElem_toArray, List.getElem_cons_succ, List.getElem_cons_zero, List.setIfInBounds_toArray, List.set_cons_zero, List.set_cons_succ])
  refine wpAnyH_take (i := 15) (v := ?_) rfl (by kernel_rfl) (by kernel_rfl) (by kernel_rfl) (fun _ _ _ h => h) (Or.inl ⟨by rfl, ?_⟩) (by assumption) ?_; rotate_left; (focus (intro w hSw; (try dsimp only at hSw); go_simp; try with_reducible rfl)); (try simp only [Act.put, List.getElem_toArray, List.getElem_cons_succ, List.getElem_cons_zero, List.setIfInBounds_toArray, List.set_cons_zero, List.set_cons_succ])
  refine wpAnyH_ready (rs := [16]) (by kernel_rfl) (by simp) (AllReadyH.cons rfl (fun K hK => ?_) AllReadyH.nil); rw [if_pos (by rfl)]; refine wp_store_row 27 _ _ rfl (w.heap.size + 1 + 1) (vecC (addV u v)) rfl rfl 27 (vecC zeroV) hR info_vec rfl (vec_one _) ?_; refine hK.out _ _ ?_ (fun hHeld => ?_); (focus (with_reducible first | assumption | exact ⟨heap_drw _ _, heap_drw _ _⟩ | exact ⟨hb.block _ (by omega), hb.block _ (by omega)⟩ | exact ⟨(heap_row _ _ (by omega)).trans hHeld.1, (heap_row _ _ (by omega)).trans hHeld.2⟩)); clear hK K; (try simp only [Act.put, List.getElem_toArray, List.getElem_cons_succ, List.getElem_cons_zero, List.setIfInBounds_toArray, List.set_cons_zero, List.set_cons_succ])
  refine wpAnyH_done (by kernel_rfl) ?_ _
  go_wp2_with fail
  (try simp only [Exit.inBlock, Exit.then])
  refine bodyPost_ret (v := .agg (vecC (addV u v))) ?_ rfl ⟨rfl, setRow_below (below_next hb B0.out) (by omega) _⟩
  exact results_cell_row rfl _ _ (w.heap.size + 1 + 1) 27 _ (0, 0) _ rfl (hR.put _) under_vec rfl info_vec
set_option linter.unusedSimpArgs false in
set_option linter.unusedVariables false in
set_option maxRecDepth 100000 in
set_option maxHeartbeats 12800000 in
theorem rPoint_any (a b c : Int) (w : World) :
    Calls Try.prog 22 #[ .agg #[.int .i64 a, .int .i64 b, .int .i64 c] ] w fun e w' => e = .returned (.agg #[.int .i64 (pntV a b c).x.lo, .int .i64 (pntV a b c).x.hi, .int .i64 (pntV a b c).y.lo, .int .i64 (pntV a b c).y.hi, .int .i64 (pntV a b c).z.lo, .int .i64 (pntV a b c).z.hi]) ∧ Below w.heap.size w w' := by
  have U0 := Lib.hid (show ((w.alloc (.cells #[.int .i64 a, .int .i64 b, .int .i64 c] 44)).alloc (.cells #[.int .i64 0, .int .i64 0, .int .i64 0, .int .i64 0, .int .i64 0, .int .i64 0] 27)).heap[w.heap.size]? = some (.cells #[.int .i64 a, .int .i64 b, .int .i64 c] 44 (0, 0)) from (Go.Deep.blk_alloc_lt _ _ _ (by simp)).trans (heap_alloc_new _ _))
  have R0 := Lib.hid (show VecAt ((w.alloc (.cells #[.int .i64 a, .int .i64 b, .int .i64 c] 44)).alloc (.cells #[.int .i64 0, .int .i64 0, .int .i64 0, .int .i64 0, .int .i64 0, .int .i64 0] 27)) (w.heap.size + 1) zeroV from VecAt.at_new (v := zeroV) (by simp))
  have B0 := Lib.hid (show Below w.heap.size w ((w.alloc (.cells #[.int .i64 a, .int .i64 b, .int .i64 c] 44)).alloc (.cells #[.int .i64 0, .int .i64 0, .int .i64 0, .int .i64 0, .int .i64 0, .int .i64 0] 27)) from below_alloc (below_alloc (Below.refl _ _) _) _)
  go_enter Try.func22, Try.ntmps22
  go_wp2_with fail
  obtain ⟨V, hV⟩ : ∃ V : World, V = ((w.alloc (.cells #[.int .i64 a, .int .i64 b, .int .i64 c] 44)).alloc (.cells #[.int .i64 0, .int .i64 0, .int .i64 0, .int .i64 0, .int .i64 0, .int .i64 0] 27)) := ⟨_, rfl⟩
  rw [← hV] at U0 R0 B0 ⊢
  clear hV
  have q : w.heap.size + 1 < V.heap.size := R0.out.lt
  have hb : Below V.heap.size V V.drew := (Below.refl _ _).drew
  have hR := R0.out.drew
  have g0 : ∀ w3 : World, w3.heap[w.heap.size]? = V.heap[w.heap.size]? → w3.cell? ⟨w.heap.size, 0, none⟩ = some (.int .i64 a) := fun w3 h => by rw [cell_of_row w3 _ 0 _ _ _ (h.trans U0.out)]; rfl
  have g1 : ∀ w3 : World, w3.heap[w.heap.size]? = V.heap[w.heap.size]? → w3.cell? ⟨w.heap.size, 1, none⟩ = some (.int .i64 b) := fun w3 h => by rw [cell_of_row w3 _ 1 _ _ _ (h.trans U0.out)]; rfl
  have g2 : ∀ w3 : World, w3.heap[w.heap.size]? = V.heap[w.heap.size]? → w3.cell? ⟨w.heap.size, 2, none⟩ = some (.int .i64 c) := fun w3 h => by rw [cell_of_row w3 _ 2 _ _ _ (h.trans U0.out)]; rfl
  refine wp_region_held_drew (S := (fun w3 => w3.heap[w.heap.size]? = V.heap[w.heap.size]?)) (by kernel_rfl) ?_ (fun hHeld => ?_)
  focus (with_reducible first | assumption | exact heap_drw _ _ | exact hb.block _ (by omega) | exact (heap_row _ _ (by omega)).trans hHeld)
  refine wpAnyH_take (i := 0) (v := ?_) rfl (by kernel_rfl) (by kernel_rfl) (by kernel_rfl) (fun _ _ _ h => h) (Or.inl ⟨by rfl, ?_⟩) (by assumption) ?_; rotate_left; (focus (intro w hSw; (try dsimp only at hSw); go_simp; try with_reducible rfl)); (try simp only [Act.put, List.getElem_toArray, List.getElem_cons_succ, List.getElem_cons_zero, List.setIfInBounds_toArray, List.set_cons_zero, List.set_cons_succ])
  refine wpAnyH_take (i := 1) (v := ?_) rfl (by kernel_rfl) (by kernel_rfl) (by kernel_rfl) (fun _ _ _ h => h) (Or.inl ⟨by rfl, ?_⟩) (by assumption) ?_; rotate_left; (focus (intro w hSw; (try dsimp only at hSw); go_simp; try with_reducible rfl)); (try simp only [Act.put, List.getElem_toArray, List.getElem_cons_succ, List.getElem_cons_zero, List.setIfInBounds_toArray, List.set_cons_zero, List.set_cons_succ])
  refine wpAnyH_take (i := 3) (v := ?_) rfl (by kernel_rfl) (by kernel_rfl) (by kernel_rfl) (fun _ _ _ h => h) (Or.inl ⟨by rfl, ?_⟩) (by assumption) ?_; rotate_left; (focus (intro w hSw; (try dsimp only at hSw); go_simp; try with_reducible rfl)); (try simp only [Act.put, List.getElem_toArray, List.getElem_cons_succ, List.getElem_cons_zero, List.setIfInBounds_toArray, List.set_cons_zero, List.set_cons_succ])
  refine wpAnyH_take (i := 4) (v := ?_) rfl (by kernel_rfl) (by kernel_rfl) (by kernel_rfl) (fun _ _ _ h => h) (Or.inl ⟨by rfl, ?_⟩) (by assumption) ?_; rotate_left; (focus (intro w hSw; (try dsimp only at hSw); go_simp; try with_reducible rfl)); (try simp only [Act.put, List.getElem_toArray, List.getElem_cons_succ, List.getElem_cons_zero, List.setIfInBounds_toArray, List.set_cons_zero, List.set_cons_succ])
  refine wpAnyH_take (i := 6) (v := ?_) rfl (by kernel_rfl) (by kernel_rfl) (by kernel_rfl) (fun _ _ _ h => h) (Or.inl ⟨by rfl, ?_⟩) (by assumption) ?_; rotate_left; (focus (intro w hSw; (try dsimp only at hSw); go_simp; try with_reducible rfl)); (try simp only [Act.put, List.getElem_toArray, List.getElem_cons_succ, List.getElem_cons_zero, List.setIfInBounds_toArray, List.set_cons_zero, List.set_cons_succ])
  refine wpAnyH_take (i := 7) (v := ?_) rfl (by kernel_rfl) (by kernel_rfl) (by kernel_rfl) (fun _ _ _ h => h) (Or.inl ⟨by rfl, ?_⟩) (by assumption) ?_; rotate_left; (focus (intro w hSw; (try dsimp only at hSw); go_simp; try with_reducible rfl)); (try simp only [Act.put, List.getElem_toArray, List.getElem_cons_succ, List.getElem_cons_zero, List.setIfInBounds_toArray, List.set_cons_zero, List.set_cons_succ])
  refine wpAnyH_ready (rs := [2]) (by kernel_rfl) (by simp) (AllReadyH.cons rfl (fun K hK => ?_) AllReadyH.nil); go_simp; ((go_at_call 33; refine (rOf_any _ _).mono ?_; rintro e w' ⟨rfl, hb2⟩); have hR2 := hR.below hb2; clear hR; have hR := hR2; clear hR2; have hb3 := below_next hb2 hb; clear hb; have hb := hb3; clear hb3 hb2); go_wp2_with fail; refine hK.out _ _ ?_ (fun hHeld => ?_); (focus (with_reducible first | assumption | exact heap_drw _ _ | exact hb.block _ (by omega) | exact (heap_row _ _ (by omega)).trans hHeld)); clear hK K; (try simp only [Act.put, List.getElem_toArray, List.getElem_cons_succ, List.getElem_cons_zero, List.setIfInBounds_toArray, List.set_cons_zero, List.set_cons_succ])
  refine wpAnyH_ready (rs := [5]) (by kernel_rfl) (by simp) (AllReadyH.cons rfl (fun K hK => ?_) AllReadyH.nil); go_simp; ((go_at_call 33; refine (rOf_any _ _).mono ?_; rintro e w' ⟨rfl, hb2⟩); have hR2 := hR.below hb2; clear hR; have hR := hR2; clear hR2; have hb3 := below_next hb2 hb; clear hb; have hb := hb3; clear hb3 hb2); go_wp2_with fail; refine hK.out _ _ ?_ (fun hHeld => ?_); (focus (with_reducible first | assumption | exact heap_drw _ _ | exact hb.block _ (by omega) | exact (heap_row _ _ (by omega)).trans hHeld)); clear hK K; (try simp only [Act.put, List.getElem_toArray, List.getElem_cons_succ, List.getElem_cons_zero, List.setIfInBounds_toArray, List.set_cons_zero, List.set_cons_succ])
  refine wpAnyH_ready (rs := [8]) (by kernel_rfl) (by simp) (AllReadyH.cons rfl (fun K hK => ?_) AllReadyH.nil); go_simp; ((go_at_call 33; refine (rOf_any _ _).mono ?_; rintro e w' ⟨rfl, hb2⟩); have hR2 := hR.below hb2; clear hR; have hR := hR2; clear hR2; have hb3 := below_next hb2 hb; clear hb; have hb := hb3; clear hb3 hb2); go_wp2_with fail; refine hK.out _ _ ?_ (fun hHeld => ?_); (focus (with_reducible first | assumption | exact heap_drw _ _ | exact hb.block _ (by omega) | exact (heap_row _ _ (by omega)).trans hHeld)); clear hK K; (try simp only [Act.put, List.getElem_toArray, List.getElem_cons_succ, List.getElem_cons_zero, List.setIfInBounds_toArray, List.set_cons_zero, List.set_cons_succ])
  refine wpAnyH_take (i := 9) (v := ?_) rfl (by kernel_rfl) (by kernel_rfl) (by kernel_rfl) (fun _ _ _ h => h) (Or.inl ⟨by rfl, ?_⟩) (by assumption) ?_; rotate_left; (focus (intro w hSw; (try dsimp only at hSw); go_simp; try with_reducible rfl)); (try simp only [Act.put, List.getElem_toArray, List.getElem_cons_succ, List.getElem_cons_zero, List.setIfInBounds_toArray, List.set_cons_zero, List.set_cons_succ])
  refine wpAnyH_ready (rs := [10]) (by kernel_rfl) (by simp) (AllReadyH.cons rfl (fun K hK => ?_) AllReadyH.nil); rw [if_pos (by rfl)]; refine wp_store_row 27 _ _ rfl (w.heap.size + 1) (vecC (pntV a b c)) rfl rfl 27 (vecC zeroV) hR info_vec rfl (vec_one _) ?_; refine hK.out _ _ ?_ (fun hHeld => ?_); (focus (with_reducible first | assumption | exact heap_drw _ _ | exact hb.block _ (by omega) | exact (heap_row _ _ (by omega)).trans hHeld)); clear hK K; (try simp only [Act.put, List.getElem_toArray, List.getElem_cons_succ, List.getElem_cons_zero, List.setIfInBounds_toArray, List.set_cons_zero, List.set_cons_succ])
  refine wpAnyH_done (by kernel_rfl) ?_ _
  go_wp2_with fail
  (try simp only [Exit.inBlock, Exit.then])
  refine bodyPost_ret (v := .agg (vecC (pntV a b c))) ?_ rfl ⟨rfl, setRow_below (below_next hb B0.out) (by omega) _⟩
  exact results_cell_row rfl _ _ (w.heap.size + 1) 27 _ (0, 0) _ rfl (hR.put _) under_vec rfl info_vec
set_option linter.unusedSimpArgs false in
set_option linter.unusedVariables false in
set_option maxRecDepth 100000 in
set_option maxHeartbeats 12800000 in
theorem rUnit_any (w : World) :
    Calls Try.prog 35 #[ ] w fun e w' => e = .returned (.agg #[.int .i64 ((unitM).x).x.lo, .int .i64 ((unitM).x).x.hi, .int .i64 ((unitM).x).y.lo, .int .i64 ((unitM).x).y.hi, .int .i64 ((unitM).x).z.lo, .int .i64 ((unitM).x).z.hi, .int .i64 ((unitM).y).x.lo, .int .i64 ((unitM).y).x.hi, .int .i64 ((unitM).y).y.lo, .int .i64 ((unitM).y).y.hi, .int .i64 ((unitM).y).z.lo, .int .i64 ((unitM).y).z.hi, .int .i64 ((unitM).z).x.lo, .int .i64 ((unitM).z).x.hi, .int .i64 ((unitM).z).y.lo, .int .i64 ((unitM).z).y.hi, .int .i64 ((unitM).z).z.lo, .int .i64 ((unitM).z).z.hi]) ∧ Below w.heap.size w w' := by
  have R0 := Lib.hid (show MatAt (w.alloc (.cells #[.int .i64 0, .int .i64 0, .int .i64 0, .int .i64 0, .int .i64 0, .int .i64 0, .int .i64 0, .int .i64 0, .int .i64 0, .int .i64 0, .int .i64 0, .int .i64 0, .int .i64 0, .int .i64 0, .int .i64 0, .int .i64 0, .int .i64 0, .int .i64 0] 26)) w.heap.size zeroM from MatAt.at_new (v := zeroM) rfl)
  have B0 := Lib.hid (show Below w.heap.size w (w.alloc (.cells #[.int .i64 0, .int .i64 0, .int .i64 0, .int .i64 0, .int .i64 0, .int .i64 0, .int .i64 0, .int .i64 0, .int .i64 0, .int .i64 0, .int .i64 0, .int .i64 0, .int .i64 0, .int .i64 0, .int .i64 0, .int .i64 0, .int .i64 0, .int .i64 0] 26)) from below_alloc (Below.refl _ _) _)
  go_enter Try.func35, Try.ntmps35
  go_wp2_with fail
  refine (rOf_any 65536 _).mono ?_
  rintro e V ⟨rfl, hb1⟩
  have jI := IvAt.new V (ofI 65536)
  have c0 := jI.c0
  have c1 := jI.c1
  have jM := (R0.out.below hb1).alloc (.cells #[.int .i64 (ofI 65536).lo, .int .i64 (ofI 65536).hi] 23)
  have jB := below_alloc (below_next hb1 B0.out) (.cells #[.int .i64 (ofI 65536).lo, .int .i64 (ofI 65536).hi] 23)
  clear hb1 jI
  go_wp2_with (first | (refine wpList_store_row rfl 26 _ _ rfl w.heap.size (matC unitM) rfl rfl 26 (matC zeroM) jM info_mat rfl (mat_one _) ?_))
  (try simp only [Exit.inBlock, Exit.then])
  refine bodyPost_ret (v := .agg (matC unitM)) ?_ rfl ⟨rfl, setRow_below jB (Nat.le_refl _) _⟩
  exact results_cell_row rfl _ _ w.heap.size 26 _ (0, 0) _ rfl (jM.put _) under_mat rfl info_mat
end Go.Proofs.Ytdplgiccpjlelaa
namespace Go.Proofs.Ytdplgiccpjlelaa
open Go.RowKit

/-- Entry k of a vector, row i of a matrix. -/
def V3.at (v : V3) (k : Nat) : Iv := if k = 0 then v.x else if k = 1 then v.y else v.z
def M3.row (m : M3) (i : Nat) : V3 := if i = 0 then m.x else if i = 1 then m.y else m.z
/-- The first i entries of a vector, and zeros. -/
def V3.upto (v : V3) (i : Nat) : V3 := ⟨if 0 < i then v.x else zeroI, if 1 < i then v.y else zeroI, if 2 < i then v.z else zeroI⟩
theorem upto3 (v : V3) : v.upto 3 = v := rfl
theorem app_at (m : M3) (v : V3) {k : Nat} (h : k < 3) : (appM m v).at k = dotV (m.row k) v := by
  match k, h with
  | 0, _ | 1, _ | 2, _ => rfl
theorem VecAt.at0 {W : World} {b k : Nat} {u : V3} (h : VecAt W b (u.upto k)) (hk : k < 3) : W.cell? ⟨b, k * 2, none⟩ = some (.int .i64 0) ∧ W.cell? ⟨b, k * 2 + 1, none⟩ = some (.int .i64 0) := by
  match k, hk, h with
  | 0, _, h => exact ⟨h.c0, h.c1⟩
  | 1, _, h => exact ⟨h.c2, h.c3⟩
  | 2, _, h => exact ⟨h.c4, h.c5⟩
theorem VecAt.put_at {W : World} {b k : Nat} {u : V3} {x : Iv} (h : VecAt W b (u.upto k)) (hk : k < 3) (e : u.at k = x) : VecAt ((W.setCell ⟨b, k * 2, none⟩ (.int .i64 x.lo)).setCell ⟨b, k * 2 + 1, none⟩ (.int .i64 x.hi)) b (u.upto (k + 1)) := by
  subst e
  have h1 := heap_setCell_same W b (k * 2) _ _ (.int .i64 (u.at k).lo) h
  have h2 := heap_setCell_same _ b (k * 2 + 1) _ _ (.int .i64 (u.at k).hi) h1
  match k, hk, h2 with
  | 0, _, h2 | 1, _, h2 | 2, _, h2 => exact h2
theorem store_vec {P : Program} {W : World} {b : Nat} {u : V3} (v : V3) (h : VecAt W b u) : (storeCells ⟨b, 0, none⟩ (vecC v).toList).run P W = .ok () (W.setRow b (vecC v)) := by
  have := run_storeCells_from (P := P) b 27 (vecC v).toList 0 (vecC u) W h rfl (by unfold vecC; simp [Value.oneCell'])
  exact this
theorem MatAt.row_xlo {W : World} {b k : Nat} {m : M3} (h : MatAt W b m) (hk : k < 3) : W.cell? ⟨b, k * 6, none⟩ = some (.int .i64 (m.row k).x.lo) := by
  match k, hk with
  | 0, _ => exact h.c0
  | 1, _ => exact h.c6
  | 2, _ => exact h.c12
theorem MatAt.row_xhi {W : World} {b k : Nat} {m : M3} (h : MatAt W b m) (hk : k < 3) : W.cell? ⟨b, k * 6 + 1, none⟩ = some (.int .i64 (m.row k).x.hi) := by
  match k, hk with
  | 0, _ => exact h.c1
  | 1, _ => exact h.c7
  | 2, _ => exact h.c13
theorem MatAt.row_ylo {W : World} {b k : Nat} {m : M3} (h : MatAt W b m) (hk : k < 3) : W.cell? ⟨b, k * 6 + 2, none⟩ = some (.int .i64 (m.row k).y.lo) := by
  match k, hk with
  | 0, _ => exact h.c2
  | 1, _ => exact h.c8
  | 2, _ => exact h.c14
theorem MatAt.row_yhi {W : World} {b k : Nat} {m : M3} (h : MatAt W b m) (hk : k < 3) : W.cell? ⟨b, k * 6 + 3, none⟩ = some (.int .i64 (m.row k).y.hi) := by
  match k, hk with
  | 0, _ => exact h.c3
  | 1, _ => exact h.c9
  | 2, _ => exact h.c15
theorem MatAt.row_zlo {W : World} {b k : Nat} {m : M3} (h : MatAt W b m) (hk : k < 3) : W.cell? ⟨b, k * 6 + 4, none⟩ = some (.int .i64 (m.row k).z.lo) := by
  match k, hk with
  | 0, _ => exact h.c4
  | 1, _ => exact h.c10
  | 2, _ => exact h.c16
theorem MatAt.row_zhi {W : World} {b k : Nat} {m : M3} (h : MatAt W b m) (hk : k < 3) : W.cell? ⟨b, k * 6 + 5, none⟩ = some (.int .i64 (m.row k).z.hi) := by
  match k, hk with
  | 0, _ => exact h.c5
  | 1, _ => exact h.c11
  | 2, _ => exact h.c17
set_option linter.unusedSimpArgs false in
set_option linter.unusedVariables false in
set_option maxRecDepth 100000 in
set_option maxHeartbeats 12800000 in
theorem rApplyMat_any (m : M3) (v : V3) (w : World) :
    Calls Try.prog 40 #[ .agg #[.int .i64 ((m).x).x.lo, .int .i64 ((m).x).x.hi, .int .i64 ((m).x).y.lo, .int .i64 ((m).x).y.hi, .int .i64 ((m).x).z.lo, .int .i64 ((m).x).z.hi, .int .i64 ((m).y).x.lo, .int .i64 ((m).y).x.hi, .int .i64 ((m).y).y.lo, .int .i64 ((m).y).y.hi, .int .i64 ((m).y).z.lo, .int .i64 ((m).y).z.hi, .int .i64 ((m).z).x.lo, .int .i64 ((m).z).x.hi, .int .i64 ((m).z).y.lo, .int .i64 ((m).z).y.hi, .int .i64 ((m).z).z.lo, .int .i64 ((m).z).z.hi], .agg #[.int .i64 (v).x.lo, .int .i64 (v).x.hi, .int .i64 (v).y.lo, .int .i64 (v).y.hi, .int .i64 (v).z.lo, .int .i64 (v).z.hi] ] w fun e w' => e = .returned (.agg #[.int .i64 (appM m v).x.lo, .int .i64 (appM m v).x.hi, .int .i64 (appM m v).y.lo, .int .i64 (appM m v).y.hi, .int .i64 (appM m v).z.lo, .int .i64 (appM m v).z.hi]) ∧ Below w.heap.size w w' := by
  go_enter Try.func40, Try.ntmps40
  go_wp2_with fail
  go_loopw [6] (fun i wr => ∃ k : Nat, k ≤ 3 ∧ i = .int .i64 k ∧ MatAt wr (w.heap.size) m ∧ VecAt wr (w.heap.size + 1) v ∧ VecAt wr (w.heap.size + 1 + 1) zeroV ∧ VecAt wr (w.heap.size + 1 + 1 + 1) ((appM m v).upto k) ∧ Below w.heap.size w wr) (fun i _ => 3 - (intOf i).toNat)
  case atStart =>
    refine ⟨0, by omega, rfl, ?_, ?_, ?_, ?_, ?_⟩
    · exact (((MatAt.new w m).alloc _).alloc _).alloc _
    · exact VecAt.alloc (VecAt.alloc (VecAt.at_new (by simp)) _) _
    · exact VecAt.alloc (VecAt.at_new (v := zeroV) (by simp)) _
    · exact VecAt.at_new (v := (appM m v).upto 0) (by simp)
    · exact below_alloc (below_alloc (below_alloc (below_alloc (Below.refl _ _) _) _) _) _
  case round =>
    obtain ⟨k, hk, rfl, r0, r1, r2, r3, hb⟩ := hrel
    by_cases h3 : k < 3
    · have x3 : (k : Int) < 3 := by omega
      have R0 := Lib.hid r0
      have R1 := Lib.hid r1
      have q1 := r1.lt
      have q2 := r2.lt
      have q3 := r3.lt
      have g0 : ∀ w3 : World, w3.heap[w.heap.size]? = wr.heap[w.heap.size]? → w3.cell? ⟨w.heap.size, k * 6, none⟩ = some (.int .i64 (m.row k).x.lo) := fun _ h => MatAt.row_xlo (h.trans R0.out) h3
      have g1 : ∀ w3 : World, w3.heap[w.heap.size]? = wr.heap[w.heap.size]? → w3.cell? ⟨w.heap.size, k * 6 + 1, none⟩ = some (.int .i64 (m.row k).x.hi) := fun _ h => MatAt.row_xhi (h.trans R0.out) h3
      have g2 : ∀ w3 : World, w3.heap[w.heap.size]? = wr.heap[w.heap.size]? → w3.cell? ⟨w.heap.size, k * 6 + 2, none⟩ = some (.int .i64 (m.row k).y.lo) := fun _ h => MatAt.row_ylo (h.trans R0.out) h3
      have g3 : ∀ w3 : World, w3.heap[w.heap.size]? = wr.heap[w.heap.size]? → w3.cell? ⟨w.heap.size, k * 6 + 2 + 1, none⟩ = some (.int .i64 (m.row k).y.hi) := fun _ h => MatAt.row_yhi (h.trans R0.out) h3
      have g4 : ∀ w3 : World, w3.heap[w.heap.size]? = wr.heap[w.heap.size]? → w3.cell? ⟨w.heap.size, k * 6 + 3, none⟩ = some (.int .i64 (m.row k).y.hi) := fun _ h => MatAt.row_yhi (h.trans R0.out) h3
      have g5 : ∀ w3 : World, w3.heap[w.heap.size]? = wr.heap[w.heap.size]? → w3.cell? ⟨w.heap.size, k * 6 + 4, none⟩ = some (.int .i64 (m.row k).z.lo) := fun _ h => MatAt.row_zlo (h.trans R0.out) h3
      have g6 : ∀ w3 : World, w3.heap[w.heap.size]? = wr.heap[w.heap.size]? → w3.cell? ⟨w.heap.size, k * 6 + 4 + 1, none⟩ = some (.int .i64 (m.row k).z.hi) := fun _ h => MatAt.row_zhi (h.trans R0.out) h3
      have g7 : ∀ w3 : World, w3.heap[w.heap.size]? = wr.heap[w.heap.size]? → w3.cell? ⟨w.heap.size, k * 6 + 5, none⟩ = some (.int .i64 (m.row k).z.hi) := fun _ h => MatAt.row_zhi (h.trans R0.out) h3
      have k0 : ∀ w3 : World, w3.heap[w.heap.size + 1]? = wr.heap[w.heap.size + 1]? → w3.cell? ⟨w.heap.size + 1, 0, none⟩ = some (.int .i64 v.x.lo) := fun _ h => VecAt.c0 (x := v) (h.trans R1.out)
      have k1 : ∀ w3 : World, w3.heap[w.heap.size + 1]? = wr.heap[w.heap.size + 1]? → w3.cell? ⟨w.heap.size + 1, 1, none⟩ = some (.int .i64 v.x.hi) := fun _ h => VecAt.c1 (x := v) (h.trans R1.out)
      have k2 : ∀ w3 : World, w3.heap[w.heap.size + 1]? = wr.heap[w.heap.size + 1]? → w3.cell? ⟨w.heap.size + 1, 2, none⟩ = some (.int .i64 v.y.lo) := fun _ h => VecAt.c2 (x := v) (h.trans R1.out)
      have k3 : ∀ w3 : World, w3.heap[w.heap.size + 1]? = wr.heap[w.heap.size + 1]? → w3.cell? ⟨w.heap.size + 1, 3, none⟩ = some (.int .i64 v.y.hi) := fun _ h => VecAt.c3 (x := v) (h.trans R1.out)
      have k4 : ∀ w3 : World, w3.heap[w.heap.size + 1]? = wr.heap[w.heap.size + 1]? → w3.cell? ⟨w.heap.size + 1, 4, none⟩ = some (.int .i64 v.z.lo) := fun _ h => VecAt.c4 (x := v) (h.trans R1.out)
      have k5 : ∀ w3 : World, w3.heap[w.heap.size + 1]? = wr.heap[w.heap.size + 1]? → w3.cell? ⟨w.heap.size + 1, 5, none⟩ = some (.int .i64 v.z.hi) := fun _ h => VecAt.c5 (x := v) (h.trans R1.out)
      have hR := r3.drew
      have hT := r2.drew
      have hB : Below wr.heap.size wr wr.drew := (Below.refl _ _).drew
      clear r0 r1 r2 r3
      go_wp2_with fail
      refine wp_region_noPanic ?_
      refine wp_region_held_drew (S := (fun w3 => w3.heap[w.heap.size]? = wr.heap[w.heap.size]? ∧ w3.heap[w.heap.size + 1]? = wr.heap[w.heap.size + 1]?)) (by kernel_rfl) ?_ (fun hHeld => ?_)
      focus (with_reducible first | assumption | exact ⟨heap_drw _ _, heap_drw _ _⟩ | exact ⟨hB.block _ (by omega), hB.block _ (by omega)⟩ | exact ⟨by rw [heap_setCell_other _ _ _ _ (by dsimp only; omega), heap_setCell_other _ _ _ _ (by dsimp only; omega)]; exact hHeld.1, by rw [heap_setCell_other _ _ _ _ (by dsimp only; omega), heap_setCell_other _ _ _ _ (by dsimp only; omega)]; exact hHeld.2⟩)
      refine wpAnyH_take (i := 0) (v := ?_) rfl (by kernel_rfl) (by kernel_rfl) (by kernel_rfl) (fun _ _ _ h => h) (Or.inl ⟨by rfl, ?_⟩) (by assumption) ?_; rotate_left; (focus (intro w hSw; (try dsimp only at hSw); go_simp; try with_reducible rfl)); (try simp only [Act.put, List.getElem_toArray, List.getElem_cons_succ, List.getElem_cons_zero, List.setIfInBounds_toArray, List.set_cons_zero, List.set_cons_succ])
      refine wpAnyH_take (i := 1) (v := ?_) rfl (by kernel_rfl) (by kernel_rfl) (by kernel_rfl) (fun _ _ _ h => h) (Or.inl ⟨by rfl, ?_⟩) (by assumption) ?_; rotate_left; (focus (intro w hSw; (try dsimp only at hSw); go_simp; try with_reducible rfl)); (try simp only [Act.put, List.getElem_toArray, List.getElem_cons_succ, List.getElem_cons_zero, List.setIfInBounds_toArray, List.set_cons_zero, List.set_cons_succ])
      refine wpAnyH_take (i := 2) (v := ?_) rfl (by kernel_rfl) (by kernel_rfl) (by kernel_rfl) (fun _ _ _ h => h) (Or.inl ⟨by rfl, ?_⟩) (by assumption) ?_; rotate_left; (focus (intro w hSw; (try dsimp only at hSw); go_simp; try with_reducible rfl)); (try simp only [Act.put, List.getElem_toArray, List.getElem_cons_succ, List.getElem_cons_zero, List.setIfInBounds_toArray, List.set_cons_zero, List.set_cons_succ])
      refine wpAnyH_take (i := 3) (v := ?_) rfl (by kernel_rfl) (by kernel_rfl) (by kernel_rfl) (fun _ _ _ h => h) (Or.inl ⟨by rfl, ?_⟩) (by assumption) ?_; rotate_left; (focus (intro w hSw; (try dsimp only at hSw); go_simp; try with_reducible rfl)); (try simp only [Act.put, List.getElem_toArray, List.getElem_cons_succ, List.getElem_cons_zero, List.setIfInBounds_toArray, List.set_cons_zero, List.set_cons_succ])
      refine wpAnyH_take (i := 4) (v := ?_) rfl (by kernel_rfl) (by kernel_rfl) (by kernel_rfl) (fun _ _ _ h => h) (Or.inl ⟨by rfl, ?_⟩) (by assumption) ?_; rotate_left; (focus (intro w hSw; (try dsimp only at hSw); go_simp; try with_reducible rfl)); (try simp only [Act.put, List.getElem_toArray, List.getElem_cons_succ, List.getElem_cons_zero, List.setIfInBounds_toArray, List.set_cons_zero, List.set_cons_succ])
      refine wpAnyH_take (i := 5) (v := ?_) rfl (by kernel_rfl) (by kernel_rfl) (by kernel_rfl) (fun _ _ _ h => h) (Or.inl ⟨by rfl, ?_⟩) (by assumption) ?_; rotate_left; (focus (intro w hSw; (try dsimp only at hSw); go_simp; try with_reducible rfl)); (try simp only [Act.put, List.getElem_toArray, List.getElem_cons_succ, List.getElem_cons_zero, List.setIfInBounds_toArray, List.set_cons_zero, List.set_cons_succ])
      refine wpAnyH_take (i := 6) (v := ?_) rfl (by kernel_rfl) (by kernel_rfl) (by kernel_rfl) (fun _ _ _ h => h) (Or.inl ⟨by rfl, ?_⟩) (by assumption) ?_; rotate_left; (focus (intro w hSw; (try dsimp only at hSw); go_simp; try with_reducible rfl)); (try simp only [Act.put, List.getElem_toArray, List.getElem_cons_succ, List.getElem_cons_zero, List.setIfInBounds_toArray, List.set_cons_zero, List.set_cons_succ])
      refine wpAnyH_take (i := 8) (v := ?_) rfl (by kernel_rfl) (by kernel_rfl) (by kernel_rfl) (fun _ _ _ h => h) (Or.inl ⟨by rfl, ?_⟩) (by assumption) ?_; rotate_left; (focus (intro w hSw; (try dsimp only at hSw); go_simp; try with_reducible rfl)); (try simp only [Act.put, List.getElem_toArray, List.getElem_cons_succ, List.getElem_cons_zero, List.setIfInBounds_toArray, List.set_cons_zero, List.set_cons_succ])
      refine wpAnyH_take (i := 9) (v := ?_) rfl (by kernel_rfl) (by kernel_rfl) (by kernel_rfl) (fun _ _ _ h => h) (Or.inl ⟨by rfl, ?_⟩) (by assumption) ?_; rotate_left; (focus (intro w hSw; (try dsimp only at hSw); go_simp; try with_reducible rfl)); (try simp only [Act.put, List.getElem_toArray, List.getElem_cons_succ, List.getElem_cons_zero, List.setIfInBounds_toArray, List.set_cons_zero, List.set_cons_succ])
      refine wpAnyH_take (i := 10) (v := ?_) rfl (by kernel_rfl) (by kernel_rfl) (by kernel_rfl) (fun _ _ _ h => h) (Or.inl ⟨by rfl, ?_⟩) (by assumption) ?_; rotate_left; (focus (intro w hSw; (try dsimp only at hSw); go_simp; try with_reducible rfl)); (try simp only [Act.put, List.getElem_toArray, List.getElem_cons_succ, List.getElem_cons_zero, List.setIfInBounds_toArray, List.set_cons_zero, List.set_cons_succ])
      refine wpAnyH_take (i := 11) (v := ?_) rfl (by kernel_rfl) (by kernel_rfl) (by kernel_rfl) (fun _ _ _ h => h) (Or.inl ⟨by rfl, ?_⟩) (by assumption) ?_; rotate_left; (focus (intro w hSw; (try dsimp only at hSw); go_simp; try with_reducible rfl)); (try simp only [Act.put, List.getElem_toArray, List.getElem_cons_succ, List.getElem_cons_zero, List.setIfInBounds_toArray, List.set_cons_zero, List.set_cons_succ])
      refine wpAnyH_take (i := 12) (v := ?_) rfl (by kernel_rfl) (by kernel_rfl) (by kernel_rfl) (fun _ _ _ h => h) (Or.inl ⟨by rfl, ?_⟩) (by assumption) ?_; rotate_left; (focus (intro w hSw; (try dsimp only at hSw); go_simp; try with_reducible rfl)); (try simp only [Act.put, List.getElem_toArray, List.getElem_cons_succ, List.getElem_cons_zero, List.setIfInBounds_toArray, List.set_cons_zero, List.set_cons_succ])
      refine wpAnyH_take (i := 13) (v := ?_) rfl (by kernel_rfl) (by kernel_rfl) (by kernel_rfl) (fun _ _ _ h => h) (Or.inl ⟨by rfl, ?_⟩) (by assumption) ?_; rotate_left; (focus (intro w hSw; (try dsimp only at hSw); go_simp; try with_reducible rfl)); (try simp only [Act.put, List.getElem_toArray, List.getElem_cons_succ, List.getElem_cons_zero, List.setIfInBounds_toArray, List.set_cons_zero, List.set_cons_succ])
      refine wpAnyH_take (i := 16) (v := ?_) rfl (by kernel_rfl) (by kernel_rfl) (by kernel_rfl) (fun _ _ _ h => h) (Or.inl ⟨by rfl, ?_⟩) (by assumption) ?_; rotate_left; (focus (intro w hSw; (try dsimp only at hSw); go_simp; try with_reducible rfl)); (try simp only [Act.put, List.getElem_toArray, List.getElem_cons_succ, List.getElem_cons_zero, List.setIfInBounds_toArray, List.set_cons_zero, List.set_cons_succ])
      refine wpAnyH_take (i := 17) (v := ?_) rfl (by kernel_rfl) (by kernel_rfl) (by kernel_rfl) (fun _ _ _ h => h) (Or.inl ⟨by rfl, ?_⟩) (by assumption) ?_; rotate_left; (focus (intro w hSw; (try dsimp only at hSw); go_simp; try with_reducible rfl)); (try simp only [Act.put, List.getElem_toArray, List.getElem_cons_succ, List.getElem_cons_zero, List.setIfInBounds_toArray, List.set_cons_zero, List.set_cons_succ])
      refine wpAnyH_take (i := 18) (v := ?_) rfl (by kernel_rfl) (by kernel_rfl) (by kernel_rfl) (fun _ _ _ h => h) (Or.inl ⟨by rfl, ?_⟩) (by assumption) ?_; rotate_left; (focus (intro w hSw; (try dsimp only at hSw); go_simp; try with_reducible rfl)); (try simp only [Act.put, List.getElem_toArray, List.getElem_cons_succ, List.getElem_cons_zero, List.setIfInBounds_toArray, List.set_cons_zero, List.set_cons_succ])
      refine wpAnyH_take (i := 19) (v := ?_) rfl (by kernel_rfl) (by kernel_rfl) (by kernel_rfl) (fun _ _ _ h => h) (Or.inl ⟨by rfl, ?_⟩) (by assumption) ?_; rotate_left; (focus (intro w hSw; (try dsimp only at hSw); go_simp; try with_reducible rfl)); (try simp only [Act.put, List.getElem_toArray, List.getElem_cons_succ, List.getElem_cons_zero, List.setIfInBounds_toArray, List.set_cons_zero, List.set_cons_succ])
      refine wpAnyH_take (i := 20) (v := ?_) rfl (by kernel_rfl) (by kernel_rfl) (by kernel_rfl) (fun _ _ _ h => h) (Or.inl ⟨by rfl, ?_⟩) (by assumption) ?_; rotate_left; (focus (intro w hSw; (try dsimp only at hSw); go_simp; try with_reducible rfl)); (try simp only [Act.put, List.getElem_toArray, List.getElem_cons_succ, List.getElem_cons_zero, List.setIfInBounds_toArray, List.set_cons_zero, List.set_cons_succ])
      refine wpAnyH_take (i := 21) (v := ?_) rfl (by kernel_rfl) (by kernel_rfl) (by kernel_rfl) (fun _ _ _ h => h) (Or.inl ⟨by rfl, ?_⟩) (by assumption) ?_; rotate_left; (focus (intro w hSw; (try dsimp only at hSw); go_simp; try with_reducible rfl)); (try simp only [Act.put, List.getElem_toArray, List.getElem_cons_succ, List.getElem_cons_zero, List.setIfInBounds_toArray, List.set_cons_zero, List.set_cons_succ])
      refine wpAnyH_ready (rs := [7]) (by kernel_rfl) (by simp) (AllReadyH.cons rfl (fun K hK => ?_) AllReadyH.nil); go_simp; ((go_at_call 64; refine (rMul_any _ _ _).mono ?_; rintro e w' ⟨rfl, hb2⟩); have hR2 := hR.below hb2; clear hR; have hR := hR2; clear hR2; have hT2 := hT.below hb2; clear hT; have hT := hT2; clear hT2; have hb3 := below_next hb2 hB; clear hB; have hB := hb3; clear hb3 hb2); go_wp2_with fail; refine hK.out _ _ ?_ (fun hHeld => ?_); (focus (with_reducible first | assumption | exact ⟨heap_drw _ _, heap_drw _ _⟩ | exact ⟨hB.block _ (by omega), hB.block _ (by omega)⟩ | exact ⟨by rw [heap_setCell_other _ _ _ _ (by dsimp only; omega), heap_setCell_other _ _ _ _ (by dsimp only; omega)]; exact hHeld.1, by rw [heap_setCell_other _ _ _ _ (by dsimp only; omega), heap_setCell_other _ _ _ _ (by dsimp only; omega)]; exact hHeld.2⟩)); clear hK K; (try simp only [Act.put, List.getElem_toArray, List.getElem_cons_succ, List.getElem_cons_zero, List.setIfInBounds_toArray, List.set_cons_zero, List.set_cons_succ])
      refine wpAnyH_ready (rs := [14]) (by kernel_rfl) (by simp) (AllReadyH.cons rfl (fun K hK => ?_) AllReadyH.nil); go_simp; ((go_at_call 64; refine (rMul_any _ _ _).mono ?_; rintro e w' ⟨rfl, hb2⟩); have hR2 := hR.below hb2; clear hR; have hR := hR2; clear hR2; have hT2 := hT.below hb2; clear hT; have hT := hT2; clear hT2; have hb3 := below_next hb2 hB; clear hB; have hB := hb3; clear hb3 hb2); go_wp2_with fail; refine hK.out _ _ ?_ (fun hHeld => ?_); (focus (with_reducible first | assumption | exact ⟨heap_drw _ _, heap_drw _ _⟩ | exact ⟨hB.block _ (by omega), hB.block _ (by omega)⟩ | exact ⟨by rw [heap_setCell_other _ _ _ _ (by dsimp only; omega), heap_setCell_other _ _ _ _ (by dsimp only; omega)]; exact hHeld.1, by rw [heap_setCell_other _ _ _ _ (by dsimp only; omega), heap_setCell_other _ _ _ _ (by dsimp only; omega)]; exact hHeld.2⟩)); clear hK K; (try simp only [Act.put, List.getElem_toArray, List.getElem_cons_succ, List.getElem_cons_zero, List.setIfInBounds_toArray, List.set_cons_zero, List.set_cons_succ])
      refine wpAnyH_ready (rs := [15]) (by kernel_rfl) (by simp) (AllReadyH.cons rfl (fun K hK => ?_) AllReadyH.nil); go_simp; ((go_at_call 52; refine (rAdd_any _ _ _).mono ?_; rintro e w' ⟨rfl, hb2⟩); have hR2 := hR.below hb2; clear hR; have hR := hR2; clear hR2; have hT2 := hT.below hb2; clear hT; have hT := hT2; clear hT2; have hb3 := below_next hb2 hB; clear hB; have hB := hb3; clear hb3 hb2); go_wp2_with fail; refine hK.out _ _ ?_ (fun hHeld => ?_); (focus (with_reducible first | assumption | exact ⟨heap_drw _ _, heap_drw _ _⟩ | exact ⟨hB.block _ (by omega), hB.block _ (by omega)⟩ | exact ⟨by rw [heap_setCell_other _ _ _ _ (by dsimp only; omega), heap_setCell_other _ _ _ _ (by dsimp only; omega)]; exact hHeld.1, by rw [heap_setCell_other _ _ _ _ (by dsimp only; omega), heap_setCell_other _ _ _ _ (by dsimp only; omega)]; exact hHeld.2⟩)); clear hK K; (try simp only [Act.put, List.getElem_toArray, List.getElem_cons_succ, List.getElem_cons_zero, List.setIfInBounds_toArray, List.set_cons_zero, List.set_cons_succ])
      refine wpAnyH_ready (rs := [22]) (by kernel_rfl) (by simp) (AllReadyH.cons rfl (fun K hK => ?_) AllReadyH.nil); go_simp; ((go_at_call 64; refine (rMul_any _ _ _).mono ?_; rintro e w' ⟨rfl, hb2⟩); have hR2 := hR.below hb2; clear hR; have hR := hR2; clear hR2; have hT2 := hT.below hb2; clear hT; have hT := hT2; clear hT2; have hb3 := below_next hb2 hB; clear hB; have hB := hb3; clear hb3 hb2); go_wp2_with fail; refine hK.out _ _ ?_ (fun hHeld => ?_); (focus (with_reducible first | assumption | exact ⟨heap_drw _ _, heap_drw _ _⟩ | exact ⟨hB.block _ (by omega), hB.block _ (by omega)⟩ | exact ⟨by rw [heap_setCell_other _ _ _ _ (by dsimp only; omega), heap_setCell_other _ _ _ _ (by dsimp only; omega)]; exact hHeld.1, by rw [heap_setCell_other _ _ _ _ (by dsimp only; omega), heap_setCell_other _ _ _ _ (by dsimp only; omega)]; exact hHeld.2⟩)); clear hK K; (try simp only [Act.put, List.getElem_toArray, List.getElem_cons_succ, List.getElem_cons_zero, List.setIfInBounds_toArray, List.set_cons_zero, List.set_cons_succ])
      refine wpAnyH_ready (rs := [23]) (by kernel_rfl) (by simp) (AllReadyH.cons rfl (fun K hK => ?_) AllReadyH.nil); go_simp; ((go_at_call 52; refine (rAdd_any _ _ _).mono ?_; rintro e w' ⟨rfl, hb2⟩); have hR2 := hR.below hb2; clear hR; have hR := hR2; clear hR2; have hT2 := hT.below hb2; clear hT; have hT := hT2; clear hT2; have hb3 := below_next hb2 hB; clear hB; have hB := hb3; clear hb3 hb2; obtain ⟨d0, d1⟩ := hR.at0 h3; have d2 := hR.free (k * 2); have d3 := hR.free (k * 2 + 1)); go_wp2_with fail; refine hK.out _ _ ?_ (fun hHeld => ?_); (focus (with_reducible first | assumption | exact ⟨heap_drw _ _, heap_drw _ _⟩ | exact ⟨hB.block _ (by omega), hB.block _ (by omega)⟩ | exact ⟨by rw [heap_setCell_other _ _ _ _ (by dsimp only; omega), heap_setCell_other _ _ _ _ (by dsimp only; omega)]; exact hHeld.1, by rw [heap_setCell_other _ _ _ _ (by dsimp only; omega), heap_setCell_other _ _ _ _ (by dsimp only; omega)]; exact hHeld.2⟩)); clear hK K; (try simp only [Act.put, List.getElem_toArray, List.getElem_cons_succ, List.getElem_cons_zero, List.setIfInBounds_toArray, List.set_cons_zero, List.set_cons_succ])
      refine wpAnyH_take (i := 24) (v := ?_) rfl (by kernel_rfl) (by kernel_rfl) (by kernel_rfl) (fun _ _ _ h => h) (Or.inl ⟨by rfl, ?_⟩) (by assumption) ?_; rotate_left; (focus (intro w hSw; (try dsimp only at hSw); go_simp; try with_reducible rfl)); (try simp only [Act.put, List.getElem_toArray, List.getElem_cons_succ, List.getElem_cons_zero, List.setIfInBounds_toArray, List.set_cons_zero, List.set_cons_succ])
      refine wpAnyH_ready (rs := [25]) (by kernel_rfl) (by simp) (AllReadyH.cons rfl (fun K hK => ?_) AllReadyH.nil); go_simp; refine hK.out _ _ ?_ (fun hHeld => ?_); (focus (with_reducible first | assumption | exact ⟨heap_drw _ _, heap_drw _ _⟩ | exact ⟨hB.block _ (by omega), hB.block _ (by omega)⟩ | exact ⟨by rw [heap_setCell_other _ _ _ _ (by dsimp only; omega), heap_setCell_other _ _ _ _ (by dsimp only; omega)]; exact hHeld.1, by rw [heap_setCell_other _ _ _ _ (by dsimp only; omega), heap_setCell_other _ _ _ _ (by dsimp only; omega)]; exact hHeld.2⟩)); clear hK K; (try simp only [Act.put, List.getElem_toArray, List.getElem_cons_succ, List.getElem_cons_zero, List.setIfInBounds_toArray, List.set_cons_zero, List.set_cons_succ])
      refine wpAnyH_done (by kernel_rfl) ?_ _
      refine NoPanic.normal ?_
      go_wp2_with fail
      go_roundw
      case rel =>
        refine ⟨k + 1, by omega, by go_num, ?_, ?_, ?_, ?_, ?_⟩
        · exact (hHeld.1.trans R0.out : _)
        · exact (hHeld.2.trans R1.out : _)
        · exact (hT.far (by omega)).far (by omega)
        · exact hR.put_at h3 (app_at m v h3)
        · exact Below.setCell (Below.setCell (below_next hB hb) (by dsimp only; omega) _) (by dsimp only; omega) _
      case measure => simp [intOf]; omega
    · obtain rfl : k = 3 := by omega
      rw [upto3] at r3
      have hst := store_vec (P := Try.prog) (appM m v) r2
      go_wp2_with (first | (refine wpList_load_row rfl 27 _ rfl (w.heap.size + 1 + 1 + 1) rfl 27 _ (0, 0) _ r3 under_vec rfl info_vec ?_))
      (try simp only [Exit.inBlock, Exit.then])
      refine bodyPost_ret (v := .agg (vecC (appM m v))) ?_ rfl ⟨rfl, setRow_below hb (by omega) _⟩
      exact results_cell_row rfl _ _ (w.heap.size + 1 + 1) 27 _ (0, 0) _ rfl (r2.put _) under_vec rfl info_vec
end Go.Proofs.Ytdplgiccpjlelaa
namespace Go.Proofs.Ytdplgiccpjlelaa
open Go.RowKit

def M3.at (m : M3) (r c : Nat) : Iv := (m.row r).at c
/-- The entries of a matrix that p names, and zeros. -/
def selM (p : Nat → Nat → Bool) (m : M3) : M3 :=
  ⟨⟨if p 0 0 then m.x.x else zeroI, if p 0 1 then m.x.y else zeroI, if p 0 2 then m.x.z else zeroI⟩, ⟨if p 1 0 then m.y.x else zeroI, if p 1 1 then m.y.y else zeroI, if p 1 2 then m.y.z else zeroI⟩,
    ⟨if p 2 0 then m.z.x else zeroI, if p 2 1 then m.z.y else zeroI, if p 2 2 then m.z.z else zeroI⟩⟩
def addP (p : Nat → Nat → Bool) (k i r c : Nat) : Bool := (r == k && c == i) || p r c
theorem selM_congr {p q : Nat → Nat → Bool} (m : M3) (h : ∀ r c, r < 3 → c < 3 → p r c = q r c) : selM p m = selM q m := by
  unfold selM
  rw [h 0 0 (by decide) (by decide), h 0 1 (by decide) (by decide), h 0 2 (by decide) (by decide), h 1 0 (by decide) (by decide), h 1 1 (by decide) (by decide), h 1 2 (by decide) (by decide),
    h 2 0 (by decide) (by decide), h 2 1 (by decide) (by decide), h 2 2 (by decide) (by decide)]
theorem selM_all {p : Nat → Nat → Bool} (m : M3) (h : ∀ r c, r < 3 → c < 3 → p r c = true) : selM p m = m := by
  rw [selM_congr (q := fun _ _ => true) m h]; rfl
theorem selM_none {p : Nat → Nat → Bool} (m : M3) (h : ∀ r c, r < 3 → c < 3 → p r c = false) : selM p m = zeroM := by
  rw [selM_congr (q := fun _ _ => false) m h]; rfl
theorem MatAt.atl {W : World} {b r c : Nat} {m : M3} (h : MatAt W b m) (hr : r < 3) (hc : c < 3) : W.cell? ⟨b, r * 6 + c * 2, none⟩ = some (.int .i64 (m.at r c).lo) := by
  match r, hr, c, hc with
  | 0, _, 0, _ => exact h.c0
  | 0, _, 1, _ => exact h.c2
  | 0, _, 2, _ => exact h.c4
  | 1, _, 0, _ => exact h.c6
  | 1, _, 1, _ => exact h.c8
  | 1, _, 2, _ => exact h.c10
  | 2, _, 0, _ => exact h.c12
  | 2, _, 1, _ => exact h.c14
  | 2, _, 2, _ => exact h.c16
theorem MatAt.ath {W : World} {b r c : Nat} {m : M3} (h : MatAt W b m) (hr : r < 3) (hc : c < 3) : W.cell? ⟨b, r * 6 + c * 2 + 1, none⟩ = some (.int .i64 (m.at r c).hi) := by
  match r, hr, c, hc with
  | 0, _, 0, _ => exact h.c1
  | 0, _, 1, _ => exact h.c3
  | 0, _, 2, _ => exact h.c5
  | 1, _, 0, _ => exact h.c7
  | 1, _, 1, _ => exact h.c9
  | 1, _, 2, _ => exact h.c11
  | 2, _, 0, _ => exact h.c13
  | 2, _, 1, _ => exact h.c15
  | 2, _, 2, _ => exact h.c17
theorem MatAt.put_at {W : World} {b r c : Nat} {p q : Nat → Nat → Bool} {m : M3} {x : Iv} (h : MatAt W b (selM p m)) (hr : r < 3) (hc : c < 3) (e : m.at r c = x) (hq : ∀ i j, i < 3 → j < 3 → addP p r c i j = q i j) :
    MatAt ((W.setCell ⟨b, r * 6 + c * 2, none⟩ (.int .i64 x.lo)).setCell ⟨b, r * 6 + c * 2 + 1, none⟩ (.int .i64 x.hi)) b (selM q m) := by
  subst e
  rw [← selM_congr m hq]
  have h1 := heap_setCell_same W b (r * 6 + c * 2) _ _ (.int .i64 (m.at r c).lo) h
  have h2 := heap_setCell_same _ b (r * 6 + c * 2 + 1) _ _ (.int .i64 (m.at r c).hi) h1
  match r, hr, c, hc, h2 with
  | 0, _, 0, _, h2 | 0, _, 1, _, h2 | 0, _, 2, _, h2 | 1, _, 0, _, h2 | 1, _, 1, _, h2 | 1, _, 2, _, h2 | 2, _, 0, _, h2 | 2, _, 1, _, h2 | 2, _, 2, _, h2 => exact h2
theorem store_mat {P : Program} {W : World} {b : Nat} {u : M3} (v : M3) (h : MatAt W b u) : (storeCells ⟨b, 0, none⟩ (matC v).toList).run P W = .ok () (W.setRow b (matC v)) := by
  have := run_storeCells_from (P := P) b 26 (matC v).toList 0 (matC u) W h rfl (by unfold matC; simp [Value.oneCell'])
  exact this
theorem tra_at (m : M3) {r c : Nat} (hr : r < 3) (hc : c < 3) : (traM m).at r c = m.at c r := by
  match r, hr, c, hc with
  | 0, _, 0, _ | 0, _, 1, _ | 0, _, 2, _ | 1, _, 0, _ | 1, _, 1, _ | 1, _, 2, _ | 2, _, 0, _ | 2, _, 1, _ | 2, _, 2, _ => rfl
set_option linter.unusedSimpArgs false in
set_option linter.unusedVariables false in
set_option maxRecDepth 100000 in
set_option maxHeartbeats 12800000 in
theorem rTranspose_any (m : M3) (w : World) :
    Calls Try.prog 65 #[ .agg #[.int .i64 ((m).x).x.lo, .int .i64 ((m).x).x.hi, .int .i64 ((m).x).y.lo, .int .i64 ((m).x).y.hi, .int .i64 ((m).x).z.lo, .int .i64 ((m).x).z.hi, .int .i64 ((m).y).x.lo, .int .i64 ((m).y).x.hi, .int .i64 ((m).y).y.lo, .int .i64 ((m).y).y.hi, .int .i64 ((m).y).z.lo, .int .i64 ((m).y).z.hi, .int .i64 ((m).z).x.lo, .int .i64 ((m).z).x.hi, .int .i64 ((m).z).y.lo, .int .i64 ((m).z).y.hi, .int .i64 ((m).z).z.lo, .int .i64 ((m).z).z.hi] ] w fun e w' => e = .returned (.agg #[.int .i64 ((traM m).x).x.lo, .int .i64 ((traM m).x).x.hi, .int .i64 ((traM m).x).y.lo, .int .i64 ((traM m).x).y.hi, .int .i64 ((traM m).x).z.lo, .int .i64 ((traM m).x).z.hi, .int .i64 ((traM m).y).x.lo, .int .i64 ((traM m).y).x.hi, .int .i64 ((traM m).y).y.lo, .int .i64 ((traM m).y).y.hi, .int .i64 ((traM m).y).z.lo, .int .i64 ((traM m).y).z.hi, .int .i64 ((traM m).z).x.lo, .int .i64 ((traM m).z).x.hi, .int .i64 ((traM m).z).y.lo, .int .i64 ((traM m).z).y.hi, .int .i64 ((traM m).z).z.lo, .int .i64 ((traM m).z).z.hi]) ∧ Below w.heap.size w w' := by
  go_enter Try.func65, Try.ntmps65
  go_wp2_with fail
  go_loopw [4] (fun i wr => ∃ a : Nat, a ≤ 3 ∧ i = .int .i64 a ∧ MatAt wr (w.heap.size) m ∧ MatAt wr (w.heap.size + 1) zeroM ∧ MatAt wr (w.heap.size + 1 + 1) (selM (fun r c => decide (c < a)) (traM m)) ∧ Below w.heap.size w wr) (fun i _ => 3 - (intOf i).toNat)
  case atStart =>
    refine ⟨0, by omega, rfl, ?_, ?_, ?_, ?_⟩
    · exact ((MatAt.new w m).alloc _).alloc _
    · exact MatAt.alloc (MatAt.at_new (v := zeroM) (by simp)) _
    · rw [selM_none _ (fun r c _ _ => by simp)]; exact MatAt.at_new (v := zeroM) (by simp)
    · exact below_alloc (below_alloc (below_alloc (Below.refl _ _) _) _) _
  case round =>
    obtain ⟨a, ha, rfl, r0, r1, r2, hb⟩ := hrel
    by_cases h3 : a < 3
    · have y3 : (a : Int) < 3 := by omega
      go_wp2_with fail
      go_loopw [5] (fun i wr => ∃ k : Nat, k ≤ 3 ∧ i = .int .i64 k ∧ MatAt wr (w.heap.size) m ∧ MatAt wr (w.heap.size + 1) zeroM ∧ MatAt wr (w.heap.size + 1 + 1) (selM (fun r c => decide (c < a ∨ (c = a ∧ r < k))) (traM m)) ∧ Below w.heap.size w wr) (fun i _ => 3 - (intOf i).toNat)
      case atStart =>
        refine ⟨0, by omega, rfl, r0, r1, ?_, hb⟩
        rw [selM_congr _ (q := fun r c => decide (c < a)) (fun r c _ _ => by simp)]
        exact r2
      case round =>
        obtain ⟨k, hk, rfl, r0, r1, r2, hb⟩ := hrel
        by_cases h4 : k < 3
        · have x3 : (k : Int) < 3 := by omega
          have g0 := r0.atl h3 h4
          have g1 := r0.ath h3 h4
          have d0 := r2.atl h4 h3
          have d1 := r2.ath h4 h3
          have d2 := r2.free (k * 6 + a * 2)
          have d3 := r2.free (k * 6 + a * 2 + 1)
          have R0 := Lib.hid r0
          have R1 := Lib.hid r1
          have R2 := Lib.hid r2
          clear r0 r1 r2
          go_wp2_with fail
          refine wp_region_noPanic ?_
          refine wp_region_held_drew (S := (fun w3 => w3.cell? ⟨w.heap.size, a * 6 + k * 2, none⟩ = some (.int .i64 (m.at a k).lo) ∧ w3.cell? ⟨w.heap.size, a * 6 + k * 2 + 1, none⟩ = some (.int .i64 (m.at a k).hi))) (by kernel_rfl) ?_ (fun hHeld => ?_)
          focus (first | assumption | exact ⟨by go_simp, by go_simp⟩)
          refine wpAnyH_take (i := 0) (v := ?_) rfl (by kernel_rfl) (by kernel_rfl) (by kernel_rfl) (fun _ _ _ h => h) (Or.inl ⟨by rfl, ?_⟩) (by assumption) ?_; rotate_left; (focus (intro w hSw; (try dsimp only at hSw); go_simp; try with_reducible rfl)); (try simp only [Act.put, List.getElem_toArray, List.getElem_cons_succ, List.getElem_cons_zero, List.setIfInBounds_toArray, List.set_cons_zero, List.set_cons_succ])
          refine wpAnyH_take (i := 1) (v := ?_) rfl (by kernel_rfl) (by kernel_rfl) (by kernel_rfl) (fun _ _ _ h => h) (Or.inl ⟨by rfl, ?_⟩) (by assumption) ?_; rotate_left; (focus (intro w hSw; (try dsimp only at hSw); go_simp; try with_reducible rfl)); (try simp only [Act.put, List.getElem_toArray, List.getElem_cons_succ, List.getElem_cons_zero, List.setIfInBounds_toArray, List.set_cons_zero, List.set_cons_succ])
          refine wpAnyH_take (i := 2) (v := ?_) rfl (by kernel_rfl) (by kernel_rfl) (by kernel_rfl) (fun _ _ _ h => h) (Or.inl ⟨by rfl, ?_⟩) (by assumption) ?_; rotate_left; (focus (intro w hSw; (try dsimp only at hSw); go_simp; try with_reducible rfl)); (try simp only [Act.put, List.getElem_toArray, List.getElem_cons_succ, List.getElem_cons_zero, List.setIfInBounds_toArray, List.set_cons_zero, List.set_cons_succ])
          refine wpAnyH_take (i := 3) (v := ?_) rfl (by kernel_rfl) (by kernel_rfl) (by kernel_rfl) (fun _ _ _ h => h) (Or.inl ⟨by rfl, ?_⟩) (by assumption) ?_; rotate_left; (focus (intro w hSw; (try dsimp only at hSw); go_simp; try with_reducible rfl)); (try simp only [Act.put, List.getElem_toArray, List.getElem_cons_succ, List.getElem_cons_zero, List.setIfInBounds_toArray, List.set_cons_zero, List.set_cons_succ])
          refine wpAnyH_take (i := 4) (v := ?_) rfl (by kernel_rfl) (by kernel_rfl) (by kernel_rfl) (fun _ _ _ h => h) (Or.inl ⟨by rfl, ?_⟩) (by assumption) ?_; rotate_left; (focus (intro w hSw; (try dsimp only at hSw); go_simp; try with_reducible rfl)); (try simp only [Act.put, List.getElem_toArray, List.getElem_cons_succ, List.getElem_cons_zero, List.setIfInBounds_toArray, List.set_cons_zero, List.set_cons_succ])
          refine wpAnyH_take (i := 5) (v := ?_) rfl (by kernel_rfl) (by kernel_rfl) (by kernel_rfl) (fun _ _ _ h => h) (Or.inl ⟨by rfl, ?_⟩) (by assumption) ?_; rotate_left; (focus (intro w hSw; (try dsimp only at hSw); go_simp; try with_reducible rfl)); (try simp only [Act.put, List.getElem_toArray, List.getElem_cons_succ, List.getElem_cons_zero, List.setIfInBounds_toArray, List.set_cons_zero, List.set_cons_succ])
          refine wpAnyH_take (i := 6) (v := ?_) rfl (by kernel_rfl) (by kernel_rfl) (by kernel_rfl) (fun _ _ _ h => h) (Or.inl ⟨by rfl, ?_⟩) (by assumption) ?_; rotate_left; (focus (intro w hSw; (try dsimp only at hSw); go_simp; try with_reducible rfl)); (try simp only [Act.put, List.getElem_toArray, List.getElem_cons_succ, List.getElem_cons_zero, List.setIfInBounds_toArray, List.set_cons_zero, List.set_cons_succ])
          refine wpAnyH_take (i := 7) (v := ?_) rfl (by kernel_rfl) (by kernel_rfl) (by kernel_rfl) (fun _ _ _ h => h) (Or.inl ⟨by rfl, ?_⟩) (by assumption) ?_; rotate_left; (focus (intro w hSw; (try dsimp only at hSw); go_simp; try with_reducible rfl)); (try simp only [Act.put, List.getElem_toArray, List.getElem_cons_succ, List.getElem_cons_zero, List.setIfInBounds_toArray, List.set_cons_zero, List.set_cons_succ])
          refine wpAnyH_take (i := 8) (v := ?_) rfl (by kernel_rfl) (by kernel_rfl) (by kernel_rfl) (fun _ _ _ h => h) (Or.inl ⟨by rfl, ?_⟩) (by assumption) ?_; rotate_left; (focus (intro w hSw; (try dsimp only at hSw); go_simp; try with_reducible rfl)); (try simp only [Act.put, List.getElem_toArray, List.getElem_cons_succ, List.getElem_cons_zero, List.setIfInBounds_toArray, List.set_cons_zero, List.set_cons_succ])
          refine wpAnyH_ready (rs := [9]) (by kernel_rfl) (by simp) (AllReadyH.cons rfl (fun K hK => ?_) AllReadyH.nil); go_simp; refine hK.out _ _ ?_ (fun hHeld => ?_); (focus (first | assumption | exact ⟨by go_simp, by go_simp⟩)); clear hK K; (try simp only [Act.put, List.getElem_toArray, List.getElem_cons_succ, List.getElem_cons_zero, List.setIfInBounds_toArray, List.set_cons_zero, List.set_cons_succ])
          refine wpAnyH_done (by kernel_rfl) ?_ _
          refine NoPanic.normal ?_
          go_wp2_with fail
          go_roundw
          case rel =>
            refine ⟨k + 1, by omega, by go_num, ?_, ?_, ?_, ?_⟩
            · exact (R0.out.drew.far (by omega)).far (by omega)
            · exact (R1.out.drew.far (by omega)).far (by omega)
            · refine MatAt.put_at R2.out.drew h4 h3 (tra_at m h4 h3) (fun i j _ _ => ?_)
              unfold addP
              rw [Bool.eq_iff_iff]
              simp only [Bool.or_eq_true, Bool.and_eq_true, beq_iff_eq, decide_eq_true_eq]
              omega
            · exact Below.setCell (Below.setCell hb.drew (by dsimp only; omega) _) (by dsimp only; omega) _
          case measure => simp [intOf]; omega
        · obtain rfl : k = 3 := by omega
          go_wp2_with fail
          go_roundw
          case rel =>
            refine ⟨a + 1, by omega, by go_num, r0, r1, ?_, hb⟩
            rw [selM_congr _ (q := fun r c => decide (c < a ∨ (c = a ∧ r < 3))) (fun r c h1 h2 => by rw [Bool.eq_iff_iff]; simp only [decide_eq_true_eq]; omega)]
            exact r2
          case measure => simp [intOf]; omega
    · obtain rfl : a = 3 := by omega
      rw [selM_all _ (fun r c h1 h2 => by simp; omega)] at r2
      have hst := store_mat (P := Try.prog) (traM m) r1
      go_wp2_with (first | (refine wpList_load_row rfl 26 _ rfl (w.heap.size + 1 + 1) rfl 26 _ (0, 0) _ r2 under_mat rfl info_mat ?_))
      (try simp only [Exit.inBlock, Exit.then])
      refine bodyPost_ret (v := .agg (matC (traM m))) ?_ rfl ⟨rfl, setRow_below hb (by omega) _⟩
      exact results_cell_row rfl _ _ (w.heap.size + 1) 26 _ (0, 0) _ rfl (r1.put _) under_mat rfl info_mat
end Go.Proofs.Ytdplgiccpjlelaa
namespace Go.Proofs.Ytdplgiccpjlelaa
open Go.RowKit

theorem com_at (a b : M3) {r c : Nat} (hr : r < 3) (hc : c < 3) : (comM a b).at r c = lim1 (addI (addI (mulI (a.at r 0) (b.at 0 c)) (mulI (a.at r 1) (b.at 1 c))) (mulI (a.at r 2) (b.at 2 c))) := by
  match r, hr, c, hc with
  | 0, _, 0, _ | 0, _, 1, _ | 0, _, 2, _ | 1, _, 0, _ | 1, _, 1, _ | 1, _, 2, _ | 2, _, 0, _ | 2, _, 1, _ | 2, _, 2, _ => rfl
set_option linter.unusedSimpArgs false in
set_option linter.unusedVariables false in
set_option maxRecDepth 100000 in
set_option maxHeartbeats 12800000 in
theorem rComposeMat_any (a b : M3) (w : World) :
    Calls Try.prog 39 #[ .agg #[.int .i64 ((a).x).x.lo, .int .i64 ((a).x).x.hi, .int .i64 ((a).x).y.lo, .int .i64 ((a).x).y.hi, .int .i64 ((a).x).z.lo, .int .i64 ((a).x).z.hi, .int .i64 ((a).y).x.lo, .int .i64 ((a).y).x.hi, .int .i64 ((a).y).y.lo, .int .i64 ((a).y).y.hi, .int .i64 ((a).y).z.lo, .int .i64 ((a).y).z.hi, .int .i64 ((a).z).x.lo, .int .i64 ((a).z).x.hi, .int .i64 ((a).z).y.lo, .int .i64 ((a).z).y.hi, .int .i64 ((a).z).z.lo, .int .i64 ((a).z).z.hi], .agg #[.int .i64 ((b).x).x.lo, .int .i64 ((b).x).x.hi, .int .i64 ((b).x).y.lo, .int .i64 ((b).x).y.hi, .int .i64 ((b).x).z.lo, .int .i64 ((b).x).z.hi, .int .i64 ((b).y).x.lo, .int .i64 ((b).y).x.hi, .int .i64 ((b).y).y.lo, .int .i64 ((b).y).y.hi, .int .i64 ((b).y).z.lo, .int .i64 ((b).y).z.hi, .int .i64 ((b).z).x.lo, .int .i64 ((b).z).x.hi, .int .i64 ((b).z).y.lo, .int .i64 ((b).z).y.hi, .int .i64 ((b).z).z.lo, .int .i64 ((b).z).z.hi] ] w fun e w' => e = .returned (.agg #[.int .i64 ((comM a b).x).x.lo, .int .i64 ((comM a b).x).x.hi, .int .i64 ((comM a b).x).y.lo, .int .i64 ((comM a b).x).y.hi, .int .i64 ((comM a b).x).z.lo, .int .i64 ((comM a b).x).z.hi, .int .i64 ((comM a b).y).x.lo, .int .i64 ((comM a b).y).x.hi, .int .i64 ((comM a b).y).y.lo, .int .i64 ((comM a b).y).y.hi, .int .i64 ((comM a b).y).z.lo, .int .i64 ((comM a b).y).z.hi, .int .i64 ((comM a b).z).x.lo, .int .i64 ((comM a b).z).x.hi, .int .i64 ((comM a b).z).y.lo, .int .i64 ((comM a b).z).y.hi, .int .i64 ((comM a b).z).z.lo, .int .i64 ((comM a b).z).z.hi]) ∧ Below w.heap.size w w' := by
  go_enter Try.func39, Try.ntmps39
  go_wp2_with fail
  go_loopw [6] (fun u wr => ∃ i : Nat, i ≤ 3 ∧ u = .int .i64 i ∧ MatAt wr (w.heap.size) a ∧ MatAt wr (w.heap.size + 1) b ∧ MatAt wr (w.heap.size + 1 + 1) zeroM ∧ MatAt wr (w.heap.size + 1 + 1 + 1) (selM (fun r c => decide (r < i)) (comM a b)) ∧ Below w.heap.size w wr) (fun u _ => 3 - (intOf u).toNat)
  case atStart =>
    refine ⟨0, by omega, rfl, ?_, ?_, ?_, ?_, ?_⟩
    · exact (((MatAt.new w a).alloc _).alloc _).alloc _
    · exact MatAt.alloc (MatAt.alloc (MatAt.at_new (v := b) (by simp)) _) _
    · exact MatAt.alloc (MatAt.at_new (v := zeroM) (by simp)) _
    · rw [selM_none _ (fun r c _ _ => by simp)]; exact MatAt.at_new (v := zeroM) (by simp)
    · exact below_alloc (below_alloc (below_alloc (below_alloc (Below.refl _ _) _) _) _) _
  case round =>
    obtain ⟨i, hi, rfl, r0, r1, r2, r3, hb⟩ := hrel
    by_cases h3 : i < 3
    · have y3 : (i : Int) < 3 := by omega
      go_wp2_with fail
      go_loopw [7] (fun u wr => ∃ k : Nat, k ≤ 3 ∧ u = .int .i64 k ∧ MatAt wr (w.heap.size) a ∧ MatAt wr (w.heap.size + 1) b ∧ MatAt wr (w.heap.size + 1 + 1) zeroM ∧ MatAt wr (w.heap.size + 1 + 1 + 1) (selM (fun r c => decide (r < i ∨ (r = i ∧ c < k))) (comM a b)) ∧ Below w.heap.size w wr) (fun u _ => 3 - (intOf u).toNat)
      case atStart =>
        refine ⟨0, by omega, rfl, r0, r1, r2, ?_, hb⟩
        rw [selM_congr _ (q := fun r c => decide (r < i)) (fun r c _ _ => by simp)]
        exact r3
      case round =>
        obtain ⟨k, hk, rfl, r0, r1, r2, r3, hb⟩ := hrel
        by_cases h4 : k < 3
        · have x3 : (k : Int) < 3 := by omega
          have R0 := Lib.hid r0
          have R1 := Lib.hid r1
          have R2 := Lib.hid r2
          have R3 := Lib.hid r3
          have q3 := r3.lt
          clear r0 r1 r2 r3
          go_wp2_with fail
          have g0 : ∀ w3 : World, Below wr.heap.size wr w3 → w3.cell? ⟨w.heap.size, i * 6, none⟩ = some (.int .i64 (a.at i 0).lo) := fun w3 h => by have := (R0.out.below h).atl (r := i) (c := 0) h3 (by decide); simpa using this
          have g1 : ∀ w3 : World, Below wr.heap.size wr w3 → w3.cell? ⟨w.heap.size, i * 6 + 1, none⟩ = some (.int .i64 (a.at i 0).hi) := fun w3 h => by have := (R0.out.below h).ath (r := i) (c := 0) h3 (by decide); simpa using this
          have g2 : ∀ w3 : World, Below wr.heap.size wr w3 → w3.cell? ⟨w.heap.size + 1, k * 2, none⟩ = some (.int .i64 (b.at 0 k).lo) := fun w3 h => by have := (R1.out.below h).atl (r := 0) (c := k) (by decide) h4; simpa using this
          have g3 : ∀ w3 : World, Below wr.heap.size wr w3 → w3.cell? ⟨w.heap.size + 1, k * 2 + 1, none⟩ = some (.int .i64 (b.at 0 k).hi) := fun w3 h => by have := (R1.out.below h).ath (r := 0) (c := k) (by decide) h4; simpa using this
          have g4 : ∀ w3 : World, Below wr.heap.size wr w3 → w3.cell? ⟨w.heap.size, i * 6 + 2, none⟩ = some (.int .i64 (a.at i 1).lo) := fun w3 h => by have := (R0.out.below h).atl (r := i) (c := 1) h3 (by decide); simpa using this
          have g5 : ∀ w3 : World, Below wr.heap.size wr w3 → w3.cell? ⟨w.heap.size, i * 6 + 2 + 1, none⟩ = some (.int .i64 (a.at i 1).hi) := fun w3 h => by have := (R0.out.below h).ath (r := i) (c := 1) h3 (by decide); simpa using this
          have g6 : ∀ w3 : World, Below wr.heap.size wr w3 → w3.cell? ⟨w.heap.size, i * 6 + 3, none⟩ = some (.int .i64 (a.at i 1).hi) := fun w3 h => by have := (R0.out.below h).ath (r := i) (c := 1) h3 (by decide); simpa using this
          have g7 : ∀ w3 : World, Below wr.heap.size wr w3 → w3.cell? ⟨w.heap.size + 1, 6 + k * 2, none⟩ = some (.int .i64 (b.at 1 k).lo) := fun w3 h => by have := (R1.out.below h).atl (r := 1) (c := k) (by decide) h4; simpa using this
          have g8 : ∀ w3 : World, Below wr.heap.size wr w3 → w3.cell? ⟨w.heap.size + 1, 6 + k * 2 + 1, none⟩ = some (.int .i64 (b.at 1 k).hi) := fun w3 h => by have := (R1.out.below h).ath (r := 1) (c := k) (by decide) h4; simpa using this
          have g9 : ∀ w3 : World, Below wr.heap.size wr w3 → w3.cell? ⟨w.heap.size, i * 6 + 4, none⟩ = some (.int .i64 (a.at i 2).lo) := fun w3 h => by have := (R0.out.below h).atl (r := i) (c := 2) h3 (by decide); simpa using this
          have g10 : ∀ w3 : World, Below wr.heap.size wr w3 → w3.cell? ⟨w.heap.size, i * 6 + 4 + 1, none⟩ = some (.int .i64 (a.at i 2).hi) := fun w3 h => by have := (R0.out.below h).ath (r := i) (c := 2) h3 (by decide); simpa using this
          have g11 : ∀ w3 : World, Below wr.heap.size wr w3 → w3.cell? ⟨w.heap.size, i * 6 + 5, none⟩ = some (.int .i64 (a.at i 2).hi) := fun w3 h => by have := (R0.out.below h).ath (r := i) (c := 2) h3 (by decide); simpa using this
          have g12 : ∀ w3 : World, Below wr.heap.size wr w3 → w3.cell? ⟨w.heap.size + 1, 12 + k * 2, none⟩ = some (.int .i64 (b.at 2 k).lo) := fun w3 h => by have := (R1.out.below h).atl (r := 2) (c := k) (by decide) h4; simpa using this
          have g13 : ∀ w3 : World, Below wr.heap.size wr w3 → w3.cell? ⟨w.heap.size + 1, 12 + k * 2 + 1, none⟩ = some (.int .i64 (b.at 2 k).hi) := fun w3 h => by have := (R1.out.below h).ath (r := 2) (c := k) (by decide) h4; simpa using this
          go_cut [8] (fun u wx => ∃ n, u = .pointer (some ⟨n, 0, none⟩) ∧ Below wr.heap.size wr wx ∧ IvAt wx n (addI (addI (mulI (a.at i 0) (b.at 0 k)) (mulI (a.at i 1) (b.at 1 k))) (mulI (a.at i 2) (b.at 2 k))) ∧ wr.heap.size ≤ n)
          case first =>
            refine wp_region_noPanic ?_
            refine wp_region_held_drew (S := (fun w3 => Below wr.heap.size wr w3)) (by kernel_rfl) ?_ (fun hHeld => ?_)
            focus (with_reducible first | assumption | exact (Below.refl _ _).drew | exact hs | exact below_alloc hHeld _ | exact (below_alloc (Below.refl _ _) _).drew | exact below_alloc (by assumption) _ | exact Below.setCell (Below.setCell hHeld (by dsimp only; omega) _) (by dsimp only; omega) _)
            refine wpAnyH_take (i := 0) (v := ?_) rfl (by kernel_rfl) (by kernel_rfl) (by kernel_rfl) (fun _ _ _ h => h) (Or.inl ⟨by rfl, ?_⟩) (by assumption) ?_; rotate_left; (focus (intro w hSw; (try dsimp only at hSw); go_simp; try with_reducible rfl)); (try simp only [Act.put, List.getElem_toArray, List.getElem_cons_succ, List.getElem_cons_zero, List.setIfInBounds_toArray, List.set_cons_zero, List.set_cons_succ])
            refine wpAnyH_take (i := 1) (v := ?_) rfl (by kernel_rfl) (by kernel_rfl) (by kernel_rfl) (fun _ _ _ h => h) (Or.inl ⟨by rfl, ?_⟩) (by assumption) ?_; rotate_left; (focus (intro w hSw; (try dsimp only at hSw); go_simp; try with_reducible rfl)); (try simp only [Act.put, List.getElem_toArray, List.getElem_cons_succ, List.getElem_cons_zero, List.setIfInBounds_toArray, List.set_cons_zero, List.set_cons_succ])
            refine wpAnyH_take (i := 2) (v := ?_) rfl (by kernel_rfl) (by kernel_rfl) (by kernel_rfl) (fun _ _ _ h => h) (Or.inl ⟨by rfl, ?_⟩) (by assumption) ?_; rotate_left; (focus (intro w hSw; (try dsimp only at hSw); go_simp; try with_reducible rfl)); (try simp only [Act.put, List.getElem_toArray, List.getElem_cons_succ, List.getElem_cons_zero, List.setIfInBounds_toArray, List.set_cons_zero, List.set_cons_succ])
            refine wpAnyH_take (i := 3) (v := ?_) rfl (by kernel_rfl) (by kernel_rfl) (by kernel_rfl) (fun _ _ _ h => h) (Or.inl ⟨by rfl, ?_⟩) (by assumption) ?_; rotate_left; (focus (intro w hSw; (try dsimp only at hSw); go_simp; try with_reducible rfl)); (try simp only [Act.put, List.getElem_toArray, List.getElem_cons_succ, List.getElem_cons_zero, List.setIfInBounds_toArray, List.set_cons_zero, List.set_cons_succ])
            refine wpAnyH_take (i := 4) (v := ?_) rfl (by kernel_rfl) (by kernel_rfl) (by kernel_rfl) (fun _ _ _ h => h) (Or.inl ⟨by rfl, ?_⟩) (by assumption) ?_; rotate_left; (focus (intro w hSw; (try dsimp only at hSw); go_simp; try with_reducible rfl)); (try simp only [Act.put, List.getElem_toArray, List.getElem_cons_succ, List.getElem_cons_zero, List.setIfInBounds_toArray, List.set_cons_zero, List.set_cons_succ])
            refine wpAnyH_take (i := 5) (v := ?_) rfl (by kernel_rfl) (by kernel_rfl) (by kernel_rfl) (fun _ _ _ h => h) (Or.inl ⟨by rfl, ?_⟩) (by assumption) ?_; rotate_left; (focus (intro w hSw; (try dsimp only at hSw); go_simp; try with_reducible rfl)); (try simp only [Act.put, List.getElem_toArray, List.getElem_cons_succ, List.getElem_cons_zero, List.setIfInBounds_toArray, List.set_cons_zero, List.set_cons_succ])
            refine wpAnyH_take (i := 6) (v := ?_) rfl (by kernel_rfl) (by kernel_rfl) (by kernel_rfl) (fun _ _ _ h => h) (Or.inl ⟨by rfl, ?_⟩) (by assumption) ?_; rotate_left; (focus (intro w hSw; (try dsimp only at hSw); go_simp; try with_reducible rfl)); (try simp only [Act.put, List.getElem_toArray, List.getElem_cons_succ, List.getElem_cons_zero, List.setIfInBounds_toArray, List.set_cons_zero, List.set_cons_succ])
            refine wpAnyH_take (i := 7) (v := ?_) rfl (by kernel_rfl) (by kernel_rfl) (by kernel_rfl) (fun _ _ _ h => h) (Or.inl ⟨by rfl, ?_⟩) (by assumption) ?_; rotate_left; (focus (intro w hSw; (try dsimp only at hSw); go_simp; try with_reducible rfl)); (try simp only [Act.put, List.getElem_toArray, List.getElem_cons_succ, List.getElem_cons_zero, List.setIfInBounds_toArray, List.set_cons_zero, List.set_cons_succ])
            refine wpAnyH_take (i := 9) (v := ?_) rfl (by kernel_rfl) (by kernel_rfl) (by kernel_rfl) (fun _ _ _ h => h) (Or.inl ⟨by rfl, ?_⟩) (by assumption) ?_; rotate_left; (focus (intro w hSw; (try dsimp only at hSw); go_simp; try with_reducible rfl)); (try simp only [Act.put, List.getElem_toArray, List.getElem_cons_succ, List.getElem_cons_zero, List.setIfInBounds_toArray, List.set_cons_zero, List.set_cons_succ])
            refine wpAnyH_take (i := 10) (v := ?_) rfl (by kernel_rfl) (by kernel_rfl) (by kernel_rfl) (fun _ _ _ h => h) (Or.inl ⟨by rfl, ?_⟩) (by assumption) ?_; rotate_left; (focus (intro w hSw; (try dsimp only at hSw); go_simp; try with_reducible rfl)); (try simp only [Act.put, List.getElem_toArray, List.getElem_cons_succ, List.getElem_cons_zero, List.setIfInBounds_toArray, List.set_cons_zero, List.set_cons_succ])
            refine wpAnyH_take (i := 11) (v := ?_) rfl (by kernel_rfl) (by kernel_rfl) (by kernel_rfl) (fun _ _ _ h => h) (Or.inl ⟨by rfl, ?_⟩) (by assumption) ?_; rotate_left; (focus (intro w hSw; (try dsimp only at hSw); go_simp; try with_reducible rfl)); (try simp only [Act.put, List.getElem_toArray, List.getElem_cons_succ, List.getElem_cons_zero, List.setIfInBounds_toArray, List.set_cons_zero, List.set_cons_succ])
            refine wpAnyH_take (i := 12) (v := ?_) rfl (by kernel_rfl) (by kernel_rfl) (by kernel_rfl) (fun _ _ _ h => h) (Or.inl ⟨by rfl, ?_⟩) (by assumption) ?_; rotate_left; (focus (intro w hSw; (try dsimp only at hSw); go_simp; try with_reducible rfl)); (try simp only [Act.put, List.getElem_toArray, List.getElem_cons_succ, List.getElem_cons_zero, List.setIfInBounds_toArray, List.set_cons_zero, List.set_cons_succ])
            refine wpAnyH_take (i := 13) (v := ?_) rfl (by kernel_rfl) (by kernel_rfl) (by kernel_rfl) (fun _ _ _ h => h) (Or.inl ⟨by rfl, ?_⟩) (by assumption) ?_; rotate_left; (focus (intro w hSw; (try dsimp only at hSw); go_simp; try with_reducible rfl)); (try simp only [Act.put, List.getElem_toArray, List.getElem_cons_succ, List.getElem_cons_zero, List.setIfInBounds_toArray, List.set_cons_zero, List.set_cons_succ])
            refine wpAnyH_take (i := 14) (v := ?_) rfl (by kernel_rfl) (by kernel_rfl) (by kernel_rfl) (fun _ _ _ h => h) (Or.inl ⟨by rfl, ?_⟩) (by assumption) ?_; rotate_left; (focus (intro w hSw; (try dsimp only at hSw); go_simp; try with_reducible rfl)); (try simp only [Act.put, List.getElem_toArray, List.getElem_cons_succ, List.getElem_cons_zero, List.setIfInBounds_toArray, List.set_cons_zero, List.set_cons_succ])
            refine wpAnyH_take (i := 15) (v := ?_) rfl (by kernel_rfl) (by kernel_rfl) (by kernel_rfl) (fun _ _ _ h => h) (Or.inl ⟨by rfl, ?_⟩) (by assumption) ?_; rotate_left; (focus (intro w hSw; (try dsimp only at hSw); go_simp; try with_reducible rfl)); (try simp only [Act.put, List.getElem_toArray, List.getElem_cons_succ, List.getElem_cons_zero, List.setIfInBounds_toArray, List.set_cons_zero, List.set_cons_succ])
            refine wpAnyH_take (i := 16) (v := ?_) rfl (by kernel_rfl) (by kernel_rfl) (by kernel_rfl) (fun _ _ _ h => h) (Or.inl ⟨by rfl, ?_⟩) (by assumption) ?_; rotate_left; (focus (intro w hSw; (try dsimp only at hSw); go_simp; try with_reducible rfl)); (try simp only [Act.put, List.getElem_toArray, List.getElem_cons_succ, List.getElem_cons_zero, List.setIfInBounds_toArray, List.set_cons_zero, List.set_cons_succ])
            refine wpAnyH_take (i := 19) (v := ?_) rfl (by kernel_rfl) (by kernel_rfl) (by kernel_rfl) (fun _ _ _ h => h) (Or.inl ⟨by rfl, ?_⟩) (by assumption) ?_; rotate_left; (focus (intro w hSw; (try dsimp only at hSw); go_simp; try with_reducible rfl)); (try simp only [Act.put, List.getElem_toArray, List.getElem_cons_succ, List.getElem_cons_zero, List.setIfInBounds_toArray, List.set_cons_zero, List.set_cons_succ])
            refine wpAnyH_take (i := 20) (v := ?_) rfl (by kernel_rfl) (by kernel_rfl) (by kernel_rfl) (fun _ _ _ h => h) (Or.inl ⟨by rfl, ?_⟩) (by assumption) ?_; rotate_left; (focus (intro w hSw; (try dsimp only at hSw); go_simp; try with_reducible rfl)); (try simp only [Act.put, List.getElem_toArray, List.getElem_cons_succ, List.getElem_cons_zero, List.setIfInBounds_toArray, List.set_cons_zero, List.set_cons_succ])
            refine wpAnyH_take (i := 21) (v := ?_) rfl (by kernel_rfl) (by kernel_rfl) (by kernel_rfl) (fun _ _ _ h => h) (Or.inl ⟨by rfl, ?_⟩) (by assumption) ?_; rotate_left; (focus (intro w hSw; (try dsimp only at hSw); go_simp; try with_reducible rfl)); (try simp only [Act.put, List.getElem_toArray, List.getElem_cons_succ, List.getElem_cons_zero, List.setIfInBounds_toArray, List.set_cons_zero, List.set_cons_succ])
            refine wpAnyH_take (i := 22) (v := ?_) rfl (by kernel_rfl) (by kernel_rfl) (by kernel_rfl) (fun _ _ _ h => h) (Or.inl ⟨by rfl, ?_⟩) (by assumption) ?_; rotate_left; (focus (intro w hSw; (try dsimp only at hSw); go_simp; try with_reducible rfl)); (try simp only [Act.put, List.getElem_toArray, List.getElem_cons_succ, List.getElem_cons_zero, List.setIfInBounds_toArray, List.set_cons_zero, List.set_cons_succ])
            refine wpAnyH_take (i := 23) (v := ?_) rfl (by kernel_rfl) (by kernel_rfl) (by kernel_rfl) (fun _ _ _ h => h) (Or.inl ⟨by rfl, ?_⟩) (by assumption) ?_; rotate_left; (focus (intro w hSw; (try dsimp only at hSw); go_simp; try with_reducible rfl)); (try simp only [Act.put, List.getElem_toArray, List.getElem_cons_succ, List.getElem_cons_zero, List.setIfInBounds_toArray, List.set_cons_zero, List.set_cons_succ])
            refine wpAnyH_take (i := 24) (v := ?_) rfl (by kernel_rfl) (by kernel_rfl) (by kernel_rfl) (fun _ _ _ h => h) (Or.inl ⟨by rfl, ?_⟩) (by assumption) ?_; rotate_left; (focus (intro w hSw; (try dsimp only at hSw); go_simp; try with_reducible rfl)); (try simp only [Act.put, List.getElem_toArray, List.getElem_cons_succ, List.getElem_cons_zero, List.setIfInBounds_toArray, List.set_cons_zero, List.set_cons_succ])
            refine wpAnyH_take (i := 25) (v := ?_) rfl (by kernel_rfl) (by kernel_rfl) (by kernel_rfl) (fun _ _ _ h => h) (Or.inl ⟨by rfl, ?_⟩) (by assumption) ?_; rotate_left; (focus (intro w hSw; (try dsimp only at hSw); go_simp; try with_reducible rfl)); (try simp only [Act.put, List.getElem_toArray, List.getElem_cons_succ, List.getElem_cons_zero, List.setIfInBounds_toArray, List.set_cons_zero, List.set_cons_succ])
            refine wpAnyH_take (i := 26) (v := ?_) rfl (by kernel_rfl) (by kernel_rfl) (by kernel_rfl) (fun _ _ _ h => h) (Or.inl ⟨by rfl, ?_⟩) (by assumption) ?_; rotate_left; (focus (intro w hSw; (try dsimp only at hSw); go_simp; try with_reducible rfl)); (try simp only [Act.put, List.getElem_toArray, List.getElem_cons_succ, List.getElem_cons_zero, List.setIfInBounds_toArray, List.set_cons_zero, List.set_cons_succ])
            refine wpAnyH_ready (rs := [8, 29]) (by kernel_rfl) (by simp) (AllReadyH.cons rfl (fun K hK => ?_) (AllReadyH.cons rfl (fun K hK => ?_) (AllReadyH.nil)))
            · go_simp; ((go_at_call 64; refine (rMul_any _ _ _).mono ?_; rintro e w' ⟨rfl, hb2⟩); have hs := below_next hb2 hHeld; have hz := hb2.size; (try simp at hz); (try replace hn := hn.below hb2)); go_wp2_with fail; refine hK.out _ _ ?_ (fun hHeld => ?_); (focus (with_reducible first | assumption | exact (Below.refl _ _).drew | exact hs | exact below_alloc hHeld _ | exact (below_alloc (Below.refl _ _) _).drew | exact below_alloc (by assumption) _ | exact Below.setCell (Below.setCell hHeld (by dsimp only; omega) _) (by dsimp only; omega) _)); clear hK K; (try simp only [Act.put, List.getElem_toArray, List.getElem_cons_succ, List.getElem_cons_zero, List.setIfInBounds_toArray, List.set_cons_zero, List.set_cons_succ])
              refine wpAnyH_ready (rs := [17, 29]) (by kernel_rfl) (by simp) (AllReadyH.cons rfl (fun K hK => ?_) (AllReadyH.cons rfl (fun K hK => ?_) (AllReadyH.nil)))
              · go_simp; ((go_at_call 64; refine (rMul_any _ _ _).mono ?_; rintro e w' ⟨rfl, hb2⟩); have hs := below_next hb2 hHeld; have hz := hb2.size; (try simp at hz); (try replace hn := hn.below hb2)); go_wp2_with fail; refine hK.out _ _ ?_ (fun hHeld => ?_); (focus (with_reducible first | assumption | exact (Below.refl _ _).drew | exact hs | exact below_alloc hHeld _ | exact (below_alloc (Below.refl _ _) _).drew | exact below_alloc (by assumption) _ | exact Below.setCell (Below.setCell hHeld (by dsimp only; omega) _) (by dsimp only; omega) _)); clear hK K; (try simp only [Act.put, List.getElem_toArray, List.getElem_cons_succ, List.getElem_cons_zero, List.setIfInBounds_toArray, List.set_cons_zero, List.set_cons_succ])
                refine wpAnyH_ready (rs := [18, 29]) (by kernel_rfl) (by simp) (AllReadyH.cons rfl (fun K hK => ?_) (AllReadyH.cons rfl (fun K hK => ?_) (AllReadyH.nil)))
                · go_simp; ((go_at_call 52; refine (rAdd_any _ _ _).mono ?_; rintro e w' ⟨rfl, hb2⟩); have hs := below_next hb2 hHeld; have hz := hb2.size; (try simp at hz); (try replace hn := hn.below hb2)); go_wp2_with fail; refine hK.out _ _ ?_ (fun hHeld => ?_); (focus (with_reducible first | assumption | exact (Below.refl _ _).drew | exact hs | exact below_alloc hHeld _ | exact (below_alloc (Below.refl _ _) _).drew | exact below_alloc (by assumption) _ | exact Below.setCell (Below.setCell hHeld (by dsimp only; omega) _) (by dsimp only; omega) _)); clear hK K; (try simp only [Act.put, List.getElem_toArray, List.getElem_cons_succ, List.getElem_cons_zero, List.setIfInBounds_toArray, List.set_cons_zero, List.set_cons_succ])
                  refine wpAnyH_ready (rs := [27, 29]) (by kernel_rfl) (by simp) (AllReadyH.cons rfl (fun K hK => ?_) (AllReadyH.cons rfl (fun K hK => ?_) (AllReadyH.nil)))
                  · go_simp; ((go_at_call 64; refine (rMul_any _ _ _).mono ?_; rintro e w' ⟨rfl, hb2⟩); have hs := below_next hb2 hHeld; have hz := hb2.size; (try simp at hz); (try replace hn := hn.below hb2)); go_wp2_with fail; refine hK.out _ _ ?_ (fun hHeld => ?_); (focus (with_reducible first | assumption | exact (Below.refl _ _).drew | exact hs | exact below_alloc hHeld _ | exact (below_alloc (Below.refl _ _) _).drew | exact below_alloc (by assumption) _ | exact Below.setCell (Below.setCell hHeld (by dsimp only; omega) _) (by dsimp only; omega) _)); clear hK K; (try simp only [Act.put, List.getElem_toArray, List.getElem_cons_succ, List.getElem_cons_zero, List.setIfInBounds_toArray, List.set_cons_zero, List.set_cons_succ])
                    refine wpAnyH_ready (rs := [28, 29]) (by kernel_rfl) (by simp) (AllReadyH.cons rfl (fun K hK => ?_) (AllReadyH.cons rfl (fun K hK => ?_) (AllReadyH.nil)))
                    · go_simp; ((go_at_call 52; refine (rAdd_any _ _ _).mono ?_; rintro e w' ⟨rfl, hb2⟩); have hs := below_next hb2 hHeld; have hz := hb2.size; (try simp at hz); (try replace hn := hn.below hb2); (try have n0 := hn.c0); (try have n1 := hn.c1); (try have n2 := hn.f0); (try have n3 := hn.f1)); go_wp2_with fail; refine hK.out _ _ ?_ (fun hHeld => ?_); (focus (with_reducible first | assumption | exact (Below.refl _ _).drew | exact hs | exact below_alloc hHeld _ | exact (below_alloc (Below.refl _ _) _).drew | exact below_alloc (by assumption) _ | exact Below.setCell (Below.setCell hHeld (by dsimp only; omega) _) (by dsimp only; omega) _)); clear hK K; (try simp only [Act.put, List.getElem_toArray, List.getElem_cons_succ, List.getElem_cons_zero, List.setIfInBounds_toArray, List.set_cons_zero, List.set_cons_succ])
                      refine wpAnyH_ready (rs := [29]) (by kernel_rfl) (by simp) (AllReadyH.cons rfl (fun K hK => ?_) (AllReadyH.nil))
                      go_simp; refine hK.out _ _ ?_ (fun hHeld => ?_); (focus (with_reducible first | assumption | exact (Below.refl _ _).drew | exact hs | exact below_alloc hHeld _ | exact (below_alloc (Below.refl _ _) _).drew | exact below_alloc (by assumption) _ | exact Below.setCell (Below.setCell hHeld (by dsimp only; omega) _) (by dsimp only; omega) _)); clear hK K; (try simp only [Act.put, List.getElem_toArray, List.getElem_cons_succ, List.getElem_cons_zero, List.setIfInBounds_toArray, List.set_cons_zero, List.set_cons_succ]); have hn : IvAt (w'.alloc (.cells #[.int .i64 0, .int .i64 0] 23)) w'.heap.size zeroI := heap_alloc_new _ _
                      refine wpAnyH_ready (rs := [30]) (by kernel_rfl) (by simp) (AllReadyH.cons rfl (fun K hK => ?_) (AllReadyH.nil))
                      go_simp; refine hK.out _ _ ?_ (fun hHeld => ?_); (focus (with_reducible first | assumption | exact (Below.refl _ _).drew | exact hs | exact below_alloc hHeld _ | exact (below_alloc (Below.refl _ _) _).drew | exact below_alloc (by assumption) _ | exact Below.setCell (Below.setCell hHeld (by dsimp only; omega) _) (by dsimp only; omega) _)); clear hK K; (try simp only [Act.put, List.getElem_toArray, List.getElem_cons_succ, List.getElem_cons_zero, List.setIfInBounds_toArray, List.set_cons_zero, List.set_cons_succ])
                      refine wpAnyH_done (by kernel_rfl) ?_ _
                      refine NoPanic.normal ?_
                      go_wp2_with fail
                      go_meet
                      refine ⟨_, rfl, hHeld, ?_, ?_⟩
                      · (with_reducible first | exact hn.set _ | exact IvAt.new _ _)
                      · (try simp) <;> omega
                    · go_simp; refine hK.out _ _ ?_ (fun hHeld => ?_); (focus (with_reducible first | assumption | exact (Below.refl _ _).drew | exact hs | exact below_alloc hHeld _ | exact (below_alloc (Below.refl _ _) _).drew | exact below_alloc (by assumption) _ | exact Below.setCell (Below.setCell hHeld (by dsimp only; omega) _) (by dsimp only; omega) _)); clear hK K; (try simp only [Act.put, List.getElem_toArray, List.getElem_cons_succ, List.getElem_cons_zero, List.setIfInBounds_toArray, List.set_cons_zero, List.set_cons_succ]); have hn : IvAt (w'.alloc (.cells #[.int .i64 0, .int .i64 0] 23)) w'.heap.size zeroI := heap_alloc_new _ _
                      refine wpAnyH_ready (rs := [28]) (by kernel_rfl) (by simp) (AllReadyH.cons rfl (fun K hK => ?_) (AllReadyH.nil))
                      go_simp; ((go_at_call 52; refine (rAdd_any _ _ _).mono ?_; rintro e w' ⟨rfl, hb2⟩); have hs := below_next hb2 hHeld; have hz := hb2.size; (try simp at hz); (try replace hn := hn.below hb2); (try have n0 := hn.c0); (try have n1 := hn.c1); (try have n2 := hn.f0); (try have n3 := hn.f1)); go_wp2_with fail; refine hK.out _ _ ?_ (fun hHeld => ?_); (focus (with_reducible first | assumption | exact (Below.refl _ _).drew | exact hs | exact below_alloc hHeld _ | exact (below_alloc (Below.refl _ _) _).drew | exact below_alloc (by assumption) _ | exact Below.setCell (Below.setCell hHeld (by dsimp only; omega) _) (by dsimp only; omega) _)); clear hK K; (try simp only [Act.put, List.getElem_toArray, List.getElem_cons_succ, List.getElem_cons_zero, List.setIfInBounds_toArray, List.set_cons_zero, List.set_cons_succ])
                      refine wpAnyH_ready (rs := [30]) (by kernel_rfl) (by simp) (AllReadyH.cons rfl (fun K hK => ?_) (AllReadyH.nil))
                      go_simp; refine hK.out _ _ ?_ (fun hHeld => ?_); (focus (with_reducible first | assumption | exact (Below.refl _ _).drew | exact hs | exact below_alloc hHeld _ | exact (below_alloc (Below.refl _ _) _).drew | exact below_alloc (by assumption) _ | exact Below.setCell (Below.setCell hHeld (by dsimp only; omega) _) (by dsimp only; omega) _)); clear hK K; (try simp only [Act.put, List.getElem_toArray, List.getElem_cons_succ, List.getElem_cons_zero, List.setIfInBounds_toArray, List.set_cons_zero, List.set_cons_succ])
                      refine wpAnyH_done (by kernel_rfl) ?_ _
                      refine NoPanic.normal ?_
                      go_wp2_with fail
                      go_meet
                      refine ⟨_, rfl, hHeld, ?_, ?_⟩
                      · (with_reducible first | exact hn.set _ | exact IvAt.new _ _)
                      · (try simp) <;> omega
                  · go_simp; refine hK.out _ _ ?_ (fun hHeld => ?_); (focus (with_reducible first | assumption | exact (Below.refl _ _).drew | exact hs | exact below_alloc hHeld _ | exact (below_alloc (Below.refl _ _) _).drew | exact below_alloc (by assumption) _ | exact Below.setCell (Below.setCell hHeld (by dsimp only; omega) _) (by dsimp only; omega) _)); clear hK K; (try simp only [Act.put, List.getElem_toArray, List.getElem_cons_succ, List.getElem_cons_zero, List.setIfInBounds_toArray, List.set_cons_zero, List.set_cons_succ]); have hn : IvAt (w'.alloc (.cells #[.int .i64 0, .int .i64 0] 23)) w'.heap.size zeroI := heap_alloc_new _ _
                    refine wpAnyH_ready (rs := [27]) (by kernel_rfl) (by simp) (AllReadyH.cons rfl (fun K hK => ?_) (AllReadyH.nil))
                    go_simp; ((go_at_call 64; refine (rMul_any _ _ _).mono ?_; rintro e w' ⟨rfl, hb2⟩); have hs := below_next hb2 hHeld; have hz := hb2.size; (try simp at hz); (try replace hn := hn.below hb2)); go_wp2_with fail; refine hK.out _ _ ?_ (fun hHeld => ?_); (focus (with_reducible first | assumption | exact (Below.refl _ _).drew | exact hs | exact below_alloc hHeld _ | exact (below_alloc (Below.refl _ _) _).drew | exact below_alloc (by assumption) _ | exact Below.setCell (Below.setCell hHeld (by dsimp only; omega) _) (by dsimp only; omega) _)); clear hK K; (try simp only [Act.put, List.getElem_toArray, List.getElem_cons_succ, List.getElem_cons_zero, List.setIfInBounds_toArray, List.set_cons_zero, List.set_cons_succ])
                    refine wpAnyH_ready (rs := [28]) (by kernel_rfl) (by simp) (AllReadyH.cons rfl (fun K hK => ?_) (AllReadyH.nil))
                    go_simp; ((go_at_call 52; refine (rAdd_any _ _ _).mono ?_; rintro e w' ⟨rfl, hb2⟩); have hs := below_next hb2 hHeld; have hz := hb2.size; (try simp at hz); (try replace hn := hn.below hb2); (try have n0 := hn.c0); (try have n1 := hn.c1); (try have n2 := hn.f0); (try have n3 := hn.f1)); go_wp2_with fail; refine hK.out _ _ ?_ (fun hHeld => ?_); (focus (with_reducible first | assumption | exact (Below.refl _ _).drew | exact hs | exact below_alloc hHeld _ | exact (below_alloc (Below.refl _ _) _).drew | exact below_alloc (by assumption) _ | exact Below.setCell (Below.setCell hHeld (by dsimp only; omega) _) (by dsimp only; omega) _)); clear hK K; (try simp only [Act.put, List.getElem_toArray, List.getElem_cons_succ, List.getElem_cons_zero, List.setIfInBounds_toArray, List.set_cons_zero, List.set_cons_succ])
                    refine wpAnyH_ready (rs := [30]) (by kernel_rfl) (by simp) (AllReadyH.cons rfl (fun K hK => ?_) (AllReadyH.nil))
                    go_simp; refine hK.out _ _ ?_ (fun hHeld => ?_); (focus (with_reducible first | assumption | exact (Below.refl _ _).drew | exact hs | exact below_alloc hHeld _ | exact (below_alloc (Below.refl _ _) _).drew | exact below_alloc (by assumption) _ | exact Below.setCell (Below.setCell hHeld (by dsimp only; omega) _) (by dsimp only; omega) _)); clear hK K; (try simp only [Act.put, List.getElem_toArray, List.getElem_cons_succ, List.getElem_cons_zero, List.setIfInBounds_toArray, List.set_cons_zero, List.set_cons_succ])
                    refine wpAnyH_done (by kernel_rfl) ?_ _
                    refine NoPanic.normal ?_
                    go_wp2_with fail
                    go_meet
                    refine ⟨_, rfl, hHeld, ?_, ?_⟩
                    · (with_reducible first | exact hn.set _ | exact IvAt.new _ _)
                    · (try simp) <;> omega
                · go_simp; refine hK.out _ _ ?_ (fun hHeld => ?_); (focus (with_reducible first | assumption | exact (Below.refl _ _).drew | exact hs | exact below_alloc hHeld _ | exact (below_alloc (Below.refl _ _) _).drew | exact below_alloc (by assumption) _ | exact Below.setCell (Below.setCell hHeld (by dsimp only; omega) _) (by dsimp only; omega) _)); clear hK K; (try simp only [Act.put, List.getElem_toArray, List.getElem_cons_succ, List.getElem_cons_zero, List.setIfInBounds_toArray, List.set_cons_zero, List.set_cons_succ]); have hn : IvAt (w'.alloc (.cells #[.int .i64 0, .int .i64 0] 23)) w'.heap.size zeroI := heap_alloc_new _ _
                  refine wpAnyH_ready (rs := [18]) (by kernel_rfl) (by simp) (AllReadyH.cons rfl (fun K hK => ?_) (AllReadyH.nil))
                  go_simp; ((go_at_call 52; refine (rAdd_any _ _ _).mono ?_; rintro e w' ⟨rfl, hb2⟩); have hs := below_next hb2 hHeld; have hz := hb2.size; (try simp at hz); (try replace hn := hn.below hb2)); go_wp2_with fail; refine hK.out _ _ ?_ (fun hHeld => ?_); (focus (with_reducible first | assumption | exact (Below.refl _ _).drew | exact hs | exact below_alloc hHeld _ | exact (below_alloc (Below.refl _ _) _).drew | exact below_alloc (by assumption) _ | exact Below.setCell (Below.setCell hHeld (by dsimp only; omega) _) (by dsimp only; omega) _)); clear hK K; (try simp only [Act.put, List.getElem_toArray, List.getElem_cons_succ, List.getElem_cons_zero, List.setIfInBounds_toArray, List.set_cons_zero, List.set_cons_succ])
                  refine wpAnyH_ready (rs := [27]) (by kernel_rfl) (by simp) (AllReadyH.cons rfl (fun K hK => ?_) (AllReadyH.nil))
                  go_simp; ((go_at_call 64; refine (rMul_any _ _ _).mono ?_; rintro e w' ⟨rfl, hb2⟩); have hs := below_next hb2 hHeld; have hz := hb2.size; (try simp at hz); (try replace hn := hn.below hb2)); go_wp2_with fail; refine hK.out _ _ ?_ (fun hHeld => ?_); (focus (with_reducible first | assumption | exact (Below.refl _ _).drew | exact hs | exact below_alloc hHeld _ | exact (below_alloc (Below.refl _ _) _).drew | exact below_alloc (by assumption) _ | exact Below.setCell (Below.setCell hHeld (by dsimp only; omega) _) (by dsimp only; omega) _)); clear hK K; (try simp only [Act.put, List.getElem_toArray, List.getElem_cons_succ, List.getElem_cons_zero, List.setIfInBounds_toArray, List.set_cons_zero, List.set_cons_succ])
                  refine wpAnyH_ready (rs := [28]) (by kernel_rfl) (by simp) (AllReadyH.cons rfl (fun K hK => ?_) (AllReadyH.nil))
                  go_simp; ((go_at_call 52; refine (rAdd_any _ _ _).mono ?_; rintro e w' ⟨rfl, hb2⟩); have hs := below_next hb2 hHeld; have hz := hb2.size; (try simp at hz); (try replace hn := hn.below hb2); (try have n0 := hn.c0); (try have n1 := hn.c1); (try have n2 := hn.f0); (try have n3 := hn.f1)); go_wp2_with fail; refine hK.out _ _ ?_ (fun hHeld => ?_); (focus (with_reducible first | assumption | exact (Below.refl _ _).drew | exact hs | exact below_alloc hHeld _ | exact (below_alloc (Below.refl _ _) _).drew | exact below_alloc (by assumption) _ | exact Below.setCell (Below.setCell hHeld (by dsimp only; omega) _) (by dsimp only; omega) _)); clear hK K; (try simp only [Act.put, List.getElem_toArray, List.getElem_cons_succ, List.getElem_cons_zero, List.setIfInBounds_toArray, List.set_cons_zero, List.set_cons_succ])
                  refine wpAnyH_ready (rs := [30]) (by kernel_rfl) (by simp) (AllReadyH.cons rfl (fun K hK => ?_) (AllReadyH.nil))
                  go_simp; refine hK.out _ _ ?_ (fun hHeld => ?_); (focus (with_reducible first | assumption | exact (Below.refl _ _).drew | exact hs | exact below_alloc hHeld _ | exact (below_alloc (Below.refl _ _) _).drew | exact below_alloc (by assumption) _ | exact Below.setCell (Below.setCell hHeld (by dsimp only; omega) _) (by dsimp only; omega) _)); clear hK K; (try simp only [Act.put, List.getElem_toArray, List.getElem_cons_succ, List.getElem_cons_zero, List.setIfInBounds_toArray, List.set_cons_zero, List.set_cons_succ])
                  refine wpAnyH_done (by kernel_rfl) ?_ _
                  refine NoPanic.normal ?_
                  go_wp2_with fail
                  go_meet
                  refine ⟨_, rfl, hHeld, ?_, ?_⟩
                  · (with_reducible first | exact hn.set _ | exact IvAt.new _ _)
                  · (try simp) <;> omega
              · go_simp; refine hK.out _ _ ?_ (fun hHeld => ?_); (focus (with_reducible first | assumption | exact (Below.refl _ _).drew | exact hs | exact below_alloc hHeld _ | exact (below_alloc (Below.refl _ _) _).drew | exact below_alloc (by assumption) _ | exact Below.setCell (Below.setCell hHeld (by dsimp only; omega) _) (by dsimp only; omega) _)); clear hK K; (try simp only [Act.put, List.getElem_toArray, List.getElem_cons_succ, List.getElem_cons_zero, List.setIfInBounds_toArray, List.set_cons_zero, List.set_cons_succ]); have hn : IvAt (w'.alloc (.cells #[.int .i64 0, .int .i64 0] 23)) w'.heap.size zeroI := heap_alloc_new _ _
                refine wpAnyH_ready (rs := [17]) (by kernel_rfl) (by simp) (AllReadyH.cons rfl (fun K hK => ?_) (AllReadyH.nil))
                go_simp; ((go_at_call 64; refine (rMul_any _ _ _).mono ?_; rintro e w' ⟨rfl, hb2⟩); have hs := below_next hb2 hHeld; have hz := hb2.size; (try simp at hz); (try replace hn := hn.below hb2)); go_wp2_with fail; refine hK.out _ _ ?_ (fun hHeld => ?_); (focus (with_reducible first | assumption | exact (Below.refl _ _).drew | exact hs | exact below_alloc hHeld _ | exact (below_alloc (Below.refl _ _) _).drew | exact below_alloc (by assumption) _ | exact Below.setCell (Below.setCell hHeld (by dsimp only; omega) _) (by dsimp only; omega) _)); clear hK K; (try simp only [Act.put, List.getElem_toArray, List.getElem_cons_succ, List.getElem_cons_zero, List.setIfInBounds_toArray, List.set_cons_zero, List.set_cons_succ])
                refine wpAnyH_ready (rs := [18]) (by kernel_rfl) (by simp) (AllReadyH.cons rfl (fun K hK => ?_) (AllReadyH.nil))
                go_simp; ((go_at_call 52; refine (rAdd_any _ _ _).mono ?_; rintro e w' ⟨rfl, hb2⟩); have hs := below_next hb2 hHeld; have hz := hb2.size; (try simp at hz); (try replace hn := hn.below hb2)); go_wp2_with fail; refine hK.out _ _ ?_ (fun hHeld => ?_); (focus (with_reducible first | assumption | exact (Below.refl _ _).drew | exact hs | exact below_alloc hHeld _ | exact (below_alloc (Below.refl _ _) _).drew | exact below_alloc (by assumption) _ | exact Below.setCell (Below.setCell hHeld (by dsimp only; omega) _) (by dsimp only; omega) _)); clear hK K; (try simp only [Act.put, List.getElem_toArray, List.getElem_cons_succ, List.getElem_cons_zero, List.setIfInBounds_toArray, List.set_cons_zero, List.set_cons_succ])
                refine wpAnyH_ready (rs := [27]) (by kernel_rfl) (by simp) (AllReadyH.cons rfl (fun K hK => ?_) (AllReadyH.nil))
                go_simp; ((go_at_call 64; refine (rMul_any _ _ _).mono ?_; rintro e w' ⟨rfl, hb2⟩); have hs := below_next hb2 hHeld; have hz := hb2.size; (try simp at hz); (try replace hn := hn.below hb2)); go_wp2_with fail; refine hK.out _ _ ?_ (fun hHeld => ?_); (focus (with_reducible first | assumption | exact (Below.refl _ _).drew | exact hs | exact below_alloc hHeld _ | exact (below_alloc (Below.refl _ _) _).drew | exact below_alloc (by assumption) _ | exact Below.setCell (Below.setCell hHeld (by dsimp only; omega) _) (by dsimp only; omega) _)); clear hK K; (try simp only [Act.put, List.getElem_toArray, List.getElem_cons_succ, List.getElem_cons_zero, List.setIfInBounds_toArray, List.set_cons_zero, List.set_cons_succ])
                refine wpAnyH_ready (rs := [28]) (by kernel_rfl) (by simp) (AllReadyH.cons rfl (fun K hK => ?_) (AllReadyH.nil))
                go_simp; ((go_at_call 52; refine (rAdd_any _ _ _).mono ?_; rintro e w' ⟨rfl, hb2⟩); have hs := below_next hb2 hHeld; have hz := hb2.size; (try simp at hz); (try replace hn := hn.below hb2); (try have n0 := hn.c0); (try have n1 := hn.c1); (try have n2 := hn.f0); (try have n3 := hn.f1)); go_wp2_with fail; refine hK.out _ _ ?_ (fun hHeld => ?_); (focus (with_reducible first | assumption | exact (Below.refl _ _).drew | exact hs | exact below_alloc hHeld _ | exact (below_alloc (Below.refl _ _) _).drew | exact below_alloc (by assumption) _ | exact Below.setCell (Below.setCell hHeld (by dsimp only; omega) _) (by dsimp only; omega) _)); clear hK K; (try simp only [Act.put, List.getElem_toArray, List.getElem_cons_succ, List.getElem_cons_zero, List.setIfInBounds_toArray, List.set_cons_zero, List.set_cons_succ])
                refine wpAnyH_ready (rs := [30]) (by kernel_rfl) (by simp) (AllReadyH.cons rfl (fun K hK => ?_) (AllReadyH.nil))
                go_simp; refine hK.out _ _ ?_ (fun hHeld => ?_); (focus (with_reducible first | assumption | exact (Below.refl _ _).drew | exact hs | exact below_alloc hHeld _ | exact (below_alloc (Below.refl _ _) _).drew | exact below_alloc (by assumption) _ | exact Below.setCell (Below.setCell hHeld (by dsimp only; omega) _) (by dsimp only; omega) _)); clear hK K; (try simp only [Act.put, List.getElem_toArray, List.getElem_cons_succ, List.getElem_cons_zero, List.setIfInBounds_toArray, List.set_cons_zero, List.set_cons_succ])
                refine wpAnyH_done (by kernel_rfl) ?_ _
                refine NoPanic.normal ?_
                go_wp2_with fail
                go_meet
                refine ⟨_, rfl, hHeld, ?_, ?_⟩
                · (with_reducible first | exact hn.set _ | exact IvAt.new _ _)
                · (try simp) <;> omega
            · go_simp; refine hK.out _ _ ?_ (fun hHeld => ?_); (focus (with_reducible first | assumption | exact (Below.refl _ _).drew | exact hs | exact below_alloc hHeld _ | exact (below_alloc (Below.refl _ _) _).drew | exact below_alloc (by assumption) _ | exact Below.setCell (Below.setCell hHeld (by dsimp only; omega) _) (by dsimp only; omega) _)); clear hK K; (try simp only [Act.put, List.getElem_toArray, List.getElem_cons_succ, List.getElem_cons_zero, List.setIfInBounds_toArray, List.set_cons_zero, List.set_cons_succ]); have hn : IvAt (wr.alloc (.cells #[.int .i64 0, .int .i64 0] 23)).drew wr.heap.size zeroI := heap_alloc_new _ _
              refine wpAnyH_ready (rs := [8]) (by kernel_rfl) (by simp) (AllReadyH.cons rfl (fun K hK => ?_) (AllReadyH.nil))
              go_simp; ((go_at_call 64; refine (rMul_any _ _ _).mono ?_; rintro e w' ⟨rfl, hb2⟩); have hs := below_next hb2 hHeld; have hz := hb2.size; (try simp at hz); (try replace hn := hn.below hb2)); go_wp2_with fail; refine hK.out _ _ ?_ (fun hHeld => ?_); (focus (with_reducible first | assumption | exact (Below.refl _ _).drew | exact hs | exact below_alloc hHeld _ | exact (below_alloc (Below.refl _ _) _).drew | exact below_alloc (by assumption) _ | exact Below.setCell (Below.setCell hHeld (by dsimp only; omega) _) (by dsimp only; omega) _)); clear hK K; (try simp only [Act.put, List.getElem_toArray, List.getElem_cons_succ, List.getElem_cons_zero, List.setIfInBounds_toArray, List.set_cons_zero, List.set_cons_succ])
              refine wpAnyH_ready (rs := [17]) (by kernel_rfl) (by simp) (AllReadyH.cons rfl (fun K hK => ?_) (AllReadyH.nil))
              go_simp; ((go_at_call 64; refine (rMul_any _ _ _).mono ?_; rintro e w' ⟨rfl, hb2⟩); have hs := below_next hb2 hHeld; have hz := hb2.size; (try simp at hz); (try replace hn := hn.below hb2)); go_wp2_with fail; refine hK.out _ _ ?_ (fun hHeld => ?_); (focus (with_reducible first | assumption | exact (Below.refl _ _).drew | exact hs | exact below_alloc hHeld _ | exact (below_alloc (Below.refl _ _) _).drew | exact below_alloc (by assumption) _ | exact Below.setCell (Below.setCell hHeld (by dsimp only; omega) _) (by dsimp only; omega) _)); clear hK K; (try simp only [Act.put, List.getElem_toArray, List.getElem_cons_succ, List.getElem_cons_zero, List.setIfInBounds_toArray, List.set_cons_zero, List.set_cons_succ])
              refine wpAnyH_ready (rs := [18]) (by kernel_rfl) (by simp) (AllReadyH.cons rfl (fun K hK => ?_) (AllReadyH.nil))
              go_simp; ((go_at_call 52; refine (rAdd_any _ _ _).mono ?_; rintro e w' ⟨rfl, hb2⟩); have hs := below_next hb2 hHeld; have hz := hb2.size; (try simp at hz); (try replace hn := hn.below hb2)); go_wp2_with fail; refine hK.out _ _ ?_ (fun hHeld => ?_); (focus (with_reducible first | assumption | exact (Below.refl _ _).drew | exact hs | exact below_alloc hHeld _ | exact (below_alloc (Below.refl _ _) _).drew | exact below_alloc (by assumption) _ | exact Below.setCell (Below.setCell hHeld (by dsimp only; omega) _) (by dsimp only; omega) _)); clear hK K; (try simp only [Act.put, List.getElem_toArray, List.getElem_cons_succ, List.getElem_cons_zero, List.setIfInBounds_toArray, List.set_cons_zero, List.set_cons_succ])
              refine wpAnyH_ready (rs := [27]) (by kernel_rfl) (by simp) (AllReadyH.cons rfl (fun K hK => ?_) (AllReadyH.nil))
              go_simp; ((go_at_call 64; refine (rMul_any _ _ _).mono ?_; rintro e w' ⟨rfl, hb2⟩); have hs := below_next hb2 hHeld; have hz := hb2.size; (try simp at hz); (try replace hn := hn.below hb2)); go_wp2_with fail; refine hK.out _ _ ?_ (fun hHeld => ?_); (focus (with_reducible first | assumption | exact (Below.refl _ _).drew | exact hs | exact below_alloc hHeld _ | exact (below_alloc (Below.refl _ _) _).drew | exact below_alloc (by assumption) _ | exact Below.setCell (Below.setCell hHeld (by dsimp only; omega) _) (by dsimp only; omega) _)); clear hK K; (try simp only [Act.put, List.getElem_toArray, List.getElem_cons_succ, List.getElem_cons_zero, List.setIfInBounds_toArray, List.set_cons_zero, List.set_cons_succ])
              refine wpAnyH_ready (rs := [28]) (by kernel_rfl) (by simp) (AllReadyH.cons rfl (fun K hK => ?_) (AllReadyH.nil))
              go_simp; ((go_at_call 52; refine (rAdd_any _ _ _).mono ?_; rintro e w' ⟨rfl, hb2⟩); have hs := below_next hb2 hHeld; have hz := hb2.size; (try simp at hz); (try replace hn := hn.below hb2); (try have n0 := hn.c0); (try have n1 := hn.c1); (try have n2 := hn.f0); (try have n3 := hn.f1)); go_wp2_with fail; refine hK.out _ _ ?_ (fun hHeld => ?_); (focus (with_reducible first | assumption | exact (Below.refl _ _).drew | exact hs | exact below_alloc hHeld _ | exact (below_alloc (Below.refl _ _) _).drew | exact below_alloc (by assumption) _ | exact Below.setCell (Below.setCell hHeld (by dsimp only; omega) _) (by dsimp only; omega) _)); clear hK K; (try simp only [Act.put, List.getElem_toArray, List.getElem_cons_succ, List.getElem_cons_zero, List.setIfInBounds_toArray, List.set_cons_zero, List.set_cons_succ])
              refine wpAnyH_ready (rs := [30]) (by kernel_rfl) (by simp) (AllReadyH.cons rfl (fun K hK => ?_) (AllReadyH.nil))
              go_simp; refine hK.out _ _ ?_ (fun hHeld => ?_); (focus (with_reducible first | assumption | exact (Below.refl _ _).drew | exact hs | exact below_alloc hHeld _ | exact (below_alloc (Below.refl _ _) _).drew | exact below_alloc (by assumption) _ | exact Below.setCell (Below.setCell hHeld (by dsimp only; omega) _) (by dsimp only; omega) _)); clear hK K; (try simp only [Act.put, List.getElem_toArray, List.getElem_cons_succ, List.getElem_cons_zero, List.setIfInBounds_toArray, List.set_cons_zero, List.set_cons_succ])
              refine wpAnyH_done (by kernel_rfl) ?_ _
              refine NoPanic.normal ?_
              go_wp2_with fail
              go_meet
              refine ⟨_, rfl, hHeld, ?_, ?_⟩
              · (with_reducible first | exact hn.set _ | exact IvAt.new _ _)
              · (try simp) <;> omega
          case rest =>
          obtain ⟨n, rfl, hW, hn, hle⟩ := hcut
          clear g0 g1 g2 g3 g4 g5 g6 g7 g8 g9 g10 g11 g12 g13
          have T0 := Lib.hid (R0.out.below hW)
          have T1 := Lib.hid (R1.out.below hW)
          have T2 := Lib.hid (R2.out.below hW)
          have T3 := Lib.hid (R3.out.below hW)
          have TB := Lib.hid (below_next hW hb)
          have c0 := hn.c0
          have c1 := hn.c1
          have d0 := T3.out.atl h3 h4
          have d1 := T3.out.ath h3 h4
          have d2 := T3.out.free (i * 6 + k * 2)
          have d3 := T3.out.free (i * 6 + k * 2 + 1)
          have m1 : ¬ n = w.heap.size + 1 + 1 + 1 := by omega
          have m2 : ¬ w.heap.size + 1 + 1 + 1 = n := by omega
          clear R0 R1 R2 R3 hW hn hle
          go_wp2_with fail
          refine wp_region_noPanic ?_
          refine wp_region_held_drew (S := (fun w3 => w3.cell? ⟨n, 0, none⟩ = some (.int .i64 (addI (addI (mulI (a.at i 0) (b.at 0 k)) (mulI (a.at i 1) (b.at 1 k))) (mulI (a.at i 2) (b.at 2 k))).lo) ∧ w3.cell? ⟨n, 1, none⟩ = some (.int .i64 (addI (addI (mulI (a.at i 0) (b.at 0 k)) (mulI (a.at i 1) (b.at 1 k))) (mulI (a.at i 2) (b.at 2 k))).hi))) (by kernel_rfl) ?_ (fun hHeld => ?_)
          focus (first | assumption | exact ⟨by go_simp, by go_simp⟩)
          refine wpAnyH_take (i := 0) (v := ?_) rfl (by kernel_rfl) (by kernel_rfl) (by kernel_rfl) (fun _ _ _ h => h) (Or.inl ⟨by rfl, ?_⟩) (by assumption) ?_; rotate_left; (focus (intro w hSw; (try dsimp only at hSw); go_simp; try with_reducible rfl)); (try simp only [Act.put, List.getElem_toArray, List.getElem_cons_succ, List.getElem_cons_zero, List.setIfInBounds_toArray, List.set_cons_zero, List.set_cons_succ])
          refine wpAnyH_take (i := 1) (v := ?_) rfl (by kernel_rfl) (by kernel_rfl) (by kernel_rfl) (fun _ _ _ h => h) (Or.inl ⟨by rfl, ?_⟩) (by assumption) ?_; rotate_left; (focus (intro w hSw; (try dsimp only at hSw); go_simp; try with_reducible rfl)); (try simp only [Act.put, List.getElem_toArray, List.getElem_cons_succ, List.getElem_cons_zero, List.setIfInBounds_toArray, List.set_cons_zero, List.set_cons_succ])
          refine wpAnyH_take (i := 2) (v := ?_) rfl (by kernel_rfl) (by kernel_rfl) (by kernel_rfl) (fun _ _ _ h => h) (Or.inl ⟨by rfl, ?_⟩) (by assumption) ?_; rotate_left; (focus (intro w hSw; (try dsimp only at hSw); go_simp; try with_reducible rfl)); (try simp only [Act.put, List.getElem_toArray, List.getElem_cons_succ, List.getElem_cons_zero, List.setIfInBounds_toArray, List.set_cons_zero, List.set_cons_succ])
          refine wpAnyH_take (i := 3) (v := ?_) rfl (by kernel_rfl) (by kernel_rfl) (by kernel_rfl) (fun _ _ _ h => h) (Or.inl ⟨by rfl, ?_⟩) (by assumption) ?_; rotate_left; (focus (intro w hSw; (try dsimp only at hSw); go_simp; try with_reducible rfl)); (try simp only [Act.put, List.getElem_toArray, List.getElem_cons_succ, List.getElem_cons_zero, List.setIfInBounds_toArray, List.set_cons_zero, List.set_cons_succ])
          refine wpAnyH_take (i := 4) (v := ?_) rfl (by kernel_rfl) (by kernel_rfl) (by kernel_rfl) (fun _ _ _ h => h) (Or.inl ⟨by rfl, ?_⟩) (by assumption) ?_; rotate_left; (focus (intro w hSw; (try dsimp only at hSw); go_simp; try with_reducible rfl)); (try simp only [Act.put, List.getElem_toArray, List.getElem_cons_succ, List.getElem_cons_zero, List.setIfInBounds_toArray, List.set_cons_zero, List.set_cons_succ])
          refine wpAnyH_take (i := 5) (v := ?_) rfl (by kernel_rfl) (by kernel_rfl) (by kernel_rfl) (fun _ _ _ h => h) (Or.inl ⟨by rfl, ?_⟩) (by assumption) ?_; rotate_left; (focus (intro w hSw; (try dsimp only at hSw); go_simp; try with_reducible rfl)); (try simp only [Act.put, List.getElem_toArray, List.getElem_cons_succ, List.getElem_cons_zero, List.setIfInBounds_toArray, List.set_cons_zero, List.set_cons_succ])
          refine wpAnyH_take (i := 6) (v := ?_) rfl (by kernel_rfl) (by kernel_rfl) (by kernel_rfl) (fun _ _ _ h => h) (Or.inl ⟨by rfl, ?_⟩) (by assumption) ?_; rotate_left; (focus (intro w hSw; (try dsimp only at hSw); go_simp; try with_reducible rfl)); (try simp only [Act.put, List.getElem_toArray, List.getElem_cons_succ, List.getElem_cons_zero, List.setIfInBounds_toArray, List.set_cons_zero, List.set_cons_succ])
          refine wpAnyH_take (i := 7) (v := ?_) rfl (by kernel_rfl) (by kernel_rfl) (by kernel_rfl) (fun _ _ _ h => h) (Or.inl ⟨by rfl, ?_⟩) (by assumption) ?_; rotate_left; (focus (intro w hSw; (try dsimp only at hSw); go_simp; try with_reducible rfl)); (try simp only [Act.put, List.getElem_toArray, List.getElem_cons_succ, List.getElem_cons_zero, List.setIfInBounds_toArray, List.set_cons_zero, List.set_cons_succ])
          refine wpAnyH_take (i := 8) (v := ?_) rfl (by kernel_rfl) (by kernel_rfl) (by kernel_rfl) (fun _ _ _ h => h) (Or.inl ⟨by rfl, ?_⟩) (by assumption) ?_; rotate_left; (focus (intro w hSw; (try dsimp only at hSw); go_simp; try with_reducible rfl)); (try simp only [Act.put, List.getElem_toArray, List.getElem_cons_succ, List.getElem_cons_zero, List.setIfInBounds_toArray, List.set_cons_zero, List.set_cons_succ])
          refine wpAnyH_take (i := 9) (v := ?_) rfl (by kernel_rfl) (by kernel_rfl) (by kernel_rfl) (fun _ _ _ h => h) (Or.inl ⟨by rfl, ?_⟩) (by assumption) ?_; rotate_left; (focus (intro w hSw; (try dsimp only at hSw); go_simp; try with_reducible rfl)); (try simp only [Act.put, List.getElem_toArray, List.getElem_cons_succ, List.getElem_cons_zero, List.setIfInBounds_toArray, List.set_cons_zero, List.set_cons_succ])
          refine wpAnyH_take (i := 10) (v := ?_) rfl (by kernel_rfl) (by kernel_rfl) (by kernel_rfl) (fun _ _ _ h => h) (Or.inl ⟨by rfl, ?_⟩) (by assumption) ?_; rotate_left; (focus (intro w hSw; (try dsimp only at hSw); go_simp; try with_reducible rfl)); (try simp only [Act.put, List.getElem_toArray, List.getElem_cons_succ, List.getElem_cons_zero, List.setIfInBounds_toArray, List.set_cons_zero, List.set_cons_succ])
          refine wpAnyH_take (i := 11) (v := ?_) rfl (by kernel_rfl) (by kernel_rfl) (by kernel_rfl) (fun _ _ _ h => h) (Or.inl ⟨by rfl, ?_⟩) (by assumption) ?_; rotate_left; (focus (intro w hSw; (try dsimp only at hSw); go_simp; try with_reducible rfl)); (try simp only [Act.put, List.getElem_toArray, List.getElem_cons_succ, List.getElem_cons_zero, List.setIfInBounds_toArray, List.set_cons_zero, List.set_cons_succ])
          refine wpAnyH_take (i := 12) (v := ?_) rfl (by kernel_rfl) (by kernel_rfl) (by kernel_rfl) (fun _ _ _ h => h) (Or.inl ⟨by rfl, ?_⟩) (by assumption) ?_; rotate_left; (focus (intro w hSw; (try dsimp only at hSw); go_simp; try with_reducible rfl)); (try simp only [Act.put, List.getElem_toArray, List.getElem_cons_succ, List.getElem_cons_zero, List.setIfInBounds_toArray, List.set_cons_zero, List.set_cons_succ])
          refine wpAnyH_ready (rs := [13]) (by kernel_rfl) (by simp) (AllReadyH.cons rfl (fun K hK => ?_) AllReadyH.nil); go_simp; refine hK.out _ _ ?_ (fun hHeld => ?_); (focus (first | assumption | exact ⟨by go_simp, by go_simp⟩)); clear hK K; (try simp only [Act.put, List.getElem_toArray, List.getElem_cons_succ, List.getElem_cons_zero, List.setIfInBounds_toArray, List.set_cons_zero, List.set_cons_succ])
          refine wpAnyH_done (by kernel_rfl) ?_ _
          refine NoPanic.normal ?_
          go_wp2_with fail
          go_roundw
          case rel =>
            refine ⟨k + 1, by omega, by go_num, ?_, ?_, ?_, ?_, ?_⟩
            · exact (T0.out.drew.far (by omega)).far (by omega)
            · exact (T1.out.drew.far (by omega)).far (by omega)
            · exact (T2.out.drew.far (by omega)).far (by omega)
            · refine MatAt.put_at (x := lim1 (addI (addI (mulI (a.at i 0) (b.at 0 k)) (mulI (a.at i 1) (b.at 1 k))) (mulI (a.at i 2) (b.at 2 k)))) T3.out.drew h3 h4 (com_at a b h3 h4) (fun r c _ _ => ?_)
              unfold addP
              rw [Bool.eq_iff_iff]
              simp only [Bool.or_eq_true, Bool.and_eq_true, beq_iff_eq, decide_eq_true_eq]
              omega
            · exact Below.setCell (Below.setCell TB.out.drew (by dsimp only; omega) _) (by dsimp only; omega) _
          case measure => simp [intOf]; omega
        · obtain rfl : k = 3 := by omega
          go_wp2_with fail
          go_roundw
          case rel =>
            refine ⟨i + 1, by omega, by go_num, r0, r1, r2, ?_, hb⟩
            rw [selM_congr _ (q := fun r c => decide (r < i ∨ (r = i ∧ c < 3))) (fun r c h1 h2 => by rw [Bool.eq_iff_iff]; simp only [decide_eq_true_eq]; omega)]
            exact r3
          case measure => simp [intOf]; omega
    · obtain rfl : i = 3 := by omega
      rw [selM_all _ (fun r c h1 h2 => by simp; omega)] at r3
      have hst := store_mat (P := Try.prog) (comM a b) r2
      go_wp2_with (first | (refine wpList_load_row rfl 26 _ rfl (w.heap.size + 1 + 1 + 1) rfl 26 _ (0, 0) _ r3 under_mat rfl info_mat ?_))
      (try simp only [Exit.inBlock, Exit.then])
      refine bodyPost_ret (v := .agg (matC (comM a b))) ?_ rfl ⟨rfl, setRow_below hb (by omega) _⟩
      exact results_cell_row rfl _ _ (w.heap.size + 1 + 1) 26 _ (0, 0) _ rfl (r2.put _) under_mat rfl info_mat
end Go.Proofs.Ytdplgiccpjlelaa
namespace Go.Proofs.Ytdplgiccpjlelaa
open Go.RowKit

def withinVB (u v : V3) : Bool := withinB u.x v.x && withinB u.y v.y && withinB u.z v.z
def withinMB (m n : M3) : Bool := withinVB m.x n.x && withinVB m.y n.y && withinVB m.z n.z
set_option linter.unusedSimpArgs false in
set_option linter.unusedVariables false in
set_option maxRecDepth 100000 in
set_option maxHeartbeats 12800000 in
theorem rWithinVec_any (u v : V3) (w : World) :
    Calls Try.prog 30 #[ .agg #[.int .i64 (u).x.lo, .int .i64 (u).x.hi, .int .i64 (u).y.lo, .int .i64 (u).y.hi, .int .i64 (u).z.lo, .int .i64 (u).z.hi], .agg #[.int .i64 (v).x.lo, .int .i64 (v).x.hi, .int .i64 (v).y.lo, .int .i64 (v).y.hi, .int .i64 (v).z.lo, .int .i64 (v).z.hi] ] w fun e w' => e = .returned (.bool (withinVB u v)) ∧ Below w.heap.size w w' := by
  have U0 := Lib.hid (show VecAt ((w.alloc (.cells #[.int .i64 (u).x.lo, .int .i64 (u).x.hi, .int .i64 (u).y.lo, .int .i64 (u).y.hi, .int .i64 (u).z.lo, .int .i64 (u).z.hi] 27)).alloc (.cells #[.int .i64 (v).x.lo, .int .i64 (v).x.hi, .int .i64 (v).y.lo, .int .i64 (v).y.hi, .int .i64 (v).z.lo, .int .i64 (v).z.hi] 27)) w.heap.size u from (VecAt.new w u).alloc _)
  have V0 := Lib.hid (show VecAt ((w.alloc (.cells #[.int .i64 (u).x.lo, .int .i64 (u).x.hi, .int .i64 (u).y.lo, .int .i64 (u).y.hi, .int .i64 (u).z.lo, .int .i64 (u).z.hi] 27)).alloc (.cells #[.int .i64 (v).x.lo, .int .i64 (v).x.hi, .int .i64 (v).y.lo, .int .i64 (v).y.hi, .int .i64 (v).z.lo, .int .i64 (v).z.hi] 27)) (w.heap.size + 1) v from VecAt.at_new (by simp))
  have B0 := Lib.hid (show Below w.heap.size w ((w.alloc (.cells #[.int .i64 (u).x.lo, .int .i64 (u).x.hi, .int .i64 (u).y.lo, .int .i64 (u).y.hi, .int .i64 (u).z.lo, .int .i64 (u).z.hi] 27)).alloc (.cells #[.int .i64 (v).x.lo, .int .i64 (v).x.hi, .int .i64 (v).y.lo, .int .i64 (v).y.hi, .int .i64 (v).z.lo, .int .i64 (v).z.hi] 27)) from below_alloc (below_alloc (Below.refl _ _) _) _)
  by_cases h1 : withinB u.x v.x = true
  · by_cases h2 : withinB u.y v.y = true
    · go_enter Try.func30, Try.ntmps30
      go_wp2_with fail
      obtain ⟨V, hV⟩ : ∃ V : World, V = ((w.alloc (.cells #[.int .i64 (u).x.lo, .int .i64 (u).x.hi, .int .i64 (u).y.lo, .int .i64 (u).y.hi, .int .i64 (u).z.lo, .int .i64 (u).z.hi] 27)).alloc (.cells #[.int .i64 (v).x.lo, .int .i64 (v).x.hi, .int .i64 (v).y.lo, .int .i64 (v).y.hi, .int .i64 (v).z.lo, .int .i64 (v).z.hi] 27)) := ⟨_, rfl⟩
      rw [← hV] at U0 V0 B0 ⊢
      clear hV
      have a0 := U0.out.c0
      have b0 := V0.out.c0
      have a1 := U0.out.c1
      have b1 := V0.out.c1
      have a2 := U0.out.c2
      have b2 := V0.out.c2
      have a3 := U0.out.c3
      have b3 := V0.out.c3
      have a4 := U0.out.c4
      have b4 := V0.out.c4
      have a5 := U0.out.c5
      have b5 := V0.out.c5
      have q : w.heap.size + 1 < V.heap.size := V0.out.lt
      have q' : w.heap.size < V.heap.size := U0.out.lt
      refine (rWithin_any _ _ _).mono ?_
      rintro e w1 ⟨rfl, hb⟩
      obtain ⟨hc, hf⟩ := bcell hb
      go_wp2_with fail
      refine (rWithin_any _ _ _).mono ?_
      rintro e w2 ⟨rfl, hb2⟩
      replace hb := below_next hb2 hb
      clear hb2 hc hf
      obtain ⟨hc, hf⟩ := bcell hb
      go_wp2_with fail
      refine (rWithin_any _ _ _).mono ?_
      rintro e w2 ⟨rfl, hb2⟩
      replace hb := below_next hb2 hb
      clear hb2 hc hf
      obtain ⟨hc, hf⟩ := bcell hb
      go_wp2_with fail
      go_ret
      exact ⟨ret_bool (by unfold withinVB; simp [h1, h2]), below_next hb B0.out⟩
    · have h2f : withinB u.y v.y = false := by simpa using h2
      clear h2
      go_enter Try.func30, Try.ntmps30
      go_wp2_with fail
      obtain ⟨V, hV⟩ : ∃ V : World, V = ((w.alloc (.cells #[.int .i64 (u).x.lo, .int .i64 (u).x.hi, .int .i64 (u).y.lo, .int .i64 (u).y.hi, .int .i64 (u).z.lo, .int .i64 (u).z.hi] 27)).alloc (.cells #[.int .i64 (v).x.lo, .int .i64 (v).x.hi, .int .i64 (v).y.lo, .int .i64 (v).y.hi, .int .i64 (v).z.lo, .int .i64 (v).z.hi] 27)) := ⟨_, rfl⟩
      rw [← hV] at U0 V0 B0 ⊢
      clear hV
      have a0 := U0.out.c0
      have b0 := V0.out.c0
      have a1 := U0.out.c1
      have b1 := V0.out.c1
      have a2 := U0.out.c2
      have b2 := V0.out.c2
      have a3 := U0.out.c3
      have b3 := V0.out.c3
      have a4 := U0.out.c4
      have b4 := V0.out.c4
      have a5 := U0.out.c5
      have b5 := V0.out.c5
      have q : w.heap.size + 1 < V.heap.size := V0.out.lt
      have q' : w.heap.size < V.heap.size := U0.out.lt
      refine (rWithin_any _ _ _).mono ?_
      rintro e w1 ⟨rfl, hb⟩
      obtain ⟨hc, hf⟩ := bcell hb
      go_wp2_with fail
      refine (rWithin_any _ _ _).mono ?_
      rintro e w2 ⟨rfl, hb2⟩
      replace hb := below_next hb2 hb
      clear hb2 hc hf
      obtain ⟨hc, hf⟩ := bcell hb
      go_wp2_with fail
      go_ret
      exact ⟨ret_bool (by unfold withinVB; simp [h1, h2f]), below_next hb B0.out⟩
  · have h1f : withinB u.x v.x = false := by simpa using h1
    clear h1
    go_enter Try.func30, Try.ntmps30
    go_wp2_with fail
    obtain ⟨V, hV⟩ : ∃ V : World, V = ((w.alloc (.cells #[.int .i64 (u).x.lo, .int .i64 (u).x.hi, .int .i64 (u).y.lo, .int .i64 (u).y.hi, .int .i64 (u).z.lo, .int .i64 (u).z.hi] 27)).alloc (.cells #[.int .i64 (v).x.lo, .int .i64 (v).x.hi, .int .i64 (v).y.lo, .int .i64 (v).y.hi, .int .i64 (v).z.lo, .int .i64 (v).z.hi] 27)) := ⟨_, rfl⟩
    rw [← hV] at U0 V0 B0 ⊢
    clear hV
    have a0 := U0.out.c0
    have b0 := V0.out.c0
    have a1 := U0.out.c1
    have b1 := V0.out.c1
    have a2 := U0.out.c2
    have b2 := V0.out.c2
    have a3 := U0.out.c3
    have b3 := V0.out.c3
    have a4 := U0.out.c4
    have b4 := V0.out.c4
    have a5 := U0.out.c5
    have b5 := V0.out.c5
    have q : w.heap.size + 1 < V.heap.size := V0.out.lt
    have q' : w.heap.size < V.heap.size := U0.out.lt
    refine (rWithin_any _ _ _).mono ?_
    rintro e w1 ⟨rfl, hb⟩
    obtain ⟨hc, hf⟩ := bcell hb
    go_wp2_with fail
    go_ret
    exact ⟨ret_bool (by unfold withinVB; simp [h1f]), below_next hb B0.out⟩
set_option linter.unusedSimpArgs false in
set_option linter.unusedVariables false in
set_option maxRecDepth 100000 in
set_option maxHeartbeats 12800000 in
theorem rWithinMat_any (u v : M3) (w : World) :
    Calls Try.prog 66 #[ .agg #[.int .i64 ((u).x).x.lo, .int .i64 ((u).x).x.hi, .int .i64 ((u).x).y.lo, .int .i64 ((u).x).y.hi, .int .i64 ((u).x).z.lo, .int .i64 ((u).x).z.hi, .int .i64 ((u).y).x.lo, .int .i64 ((u).y).x.hi, .int .i64 ((u).y).y.lo, .int .i64 ((u).y).y.hi, .int .i64 ((u).y).z.lo, .int .i64 ((u).y).z.hi, .int .i64 ((u).z).x.lo, .int .i64 ((u).z).x.hi, .int .i64 ((u).z).y.lo, .int .i64 ((u).z).y.hi, .int .i64 ((u).z).z.lo, .int .i64 ((u).z).z.hi], .agg #[.int .i64 ((v).x).x.lo, .int .i64 ((v).x).x.hi, .int .i64 ((v).x).y.lo, .int .i64 ((v).x).y.hi, .int .i64 ((v).x).z.lo, .int .i64 ((v).x).z.hi, .int .i64 ((v).y).x.lo, .int .i64 ((v).y).x.hi, .int .i64 ((v).y).y.lo, .int .i64 ((v).y).y.hi, .int .i64 ((v).y).z.lo, .int .i64 ((v).y).z.hi, .int .i64 ((v).z).x.lo, .int .i64 ((v).z).x.hi, .int .i64 ((v).z).y.lo, .int .i64 ((v).z).y.hi, .int .i64 ((v).z).z.lo, .int .i64 ((v).z).z.hi] ] w fun e w' => e = .returned (.bool (withinMB u v)) ∧ Below w.heap.size w w' := by
  have U0 := Lib.hid (show MatAt ((w.alloc (.cells #[.int .i64 ((u).x).x.lo, .int .i64 ((u).x).x.hi, .int .i64 ((u).x).y.lo, .int .i64 ((u).x).y.hi, .int .i64 ((u).x).z.lo, .int .i64 ((u).x).z.hi, .int .i64 ((u).y).x.lo, .int .i64 ((u).y).x.hi, .int .i64 ((u).y).y.lo, .int .i64 ((u).y).y.hi, .int .i64 ((u).y).z.lo, .int .i64 ((u).y).z.hi, .int .i64 ((u).z).x.lo, .int .i64 ((u).z).x.hi, .int .i64 ((u).z).y.lo, .int .i64 ((u).z).y.hi, .int .i64 ((u).z).z.lo, .int .i64 ((u).z).z.hi] 26)).alloc (.cells #[.int .i64 ((v).x).x.lo, .int .i64 ((v).x).x.hi, .int .i64 ((v).x).y.lo, .int .i64 ((v).x).y.hi, .int .i64 ((v).x).z.lo, .int .i64 ((v).x).z.hi, .int .i64 ((v).y).x.lo, .int .i64 ((v).y).x.hi, .int .i64 ((v).y).y.lo, .int .i64 ((v).y).y.hi, .int .i64 ((v).y).z.lo, .int .i64 ((v).y).z.hi, .int .i64 ((v).z).x.lo, .int .i64 ((v).z).x.hi, .int .i64 ((v).z).y.lo, .int .i64 ((v).z).y.hi, .int .i64 ((v).z).z.lo, .int .i64 ((v).z).z.hi] 26)) w.heap.size u from (MatAt.new w u).alloc _)
  have V0 := Lib.hid (show MatAt ((w.alloc (.cells #[.int .i64 ((u).x).x.lo, .int .i64 ((u).x).x.hi, .int .i64 ((u).x).y.lo, .int .i64 ((u).x).y.hi, .int .i64 ((u).x).z.lo, .int .i64 ((u).x).z.hi, .int .i64 ((u).y).x.lo, .int .i64 ((u).y).x.hi, .int .i64 ((u).y).y.lo, .int .i64 ((u).y).y.hi, .int .i64 ((u).y).z.lo, .int .i64 ((u).y).z.hi, .int .i64 ((u).z).x.lo, .int .i64 ((u).z).x.hi, .int .i64 ((u).z).y.lo, .int .i64 ((u).z).y.hi, .int .i64 ((u).z).z.lo, .int .i64 ((u).z).z.hi] 26)).alloc (.cells #[.int .i64 ((v).x).x.lo, .int .i64 ((v).x).x.hi, .int .i64 ((v).x).y.lo, .int .i64 ((v).x).y.hi, .int .i64 ((v).x).z.lo, .int .i64 ((v).x).z.hi, .int .i64 ((v).y).x.lo, .int .i64 ((v).y).x.hi, .int .i64 ((v).y).y.lo, .int .i64 ((v).y).y.hi, .int .i64 ((v).y).z.lo, .int .i64 ((v).y).z.hi, .int .i64 ((v).z).x.lo, .int .i64 ((v).z).x.hi, .int .i64 ((v).z).y.lo, .int .i64 ((v).z).y.hi, .int .i64 ((v).z).z.lo, .int .i64 ((v).z).z.hi] 26)) (w.heap.size + 1) v from MatAt.at_new (by simp))
  have B0 := Lib.hid (show Below w.heap.size w ((w.alloc (.cells #[.int .i64 ((u).x).x.lo, .int .i64 ((u).x).x.hi, .int .i64 ((u).x).y.lo, .int .i64 ((u).x).y.hi, .int .i64 ((u).x).z.lo, .int .i64 ((u).x).z.hi, .int .i64 ((u).y).x.lo, .int .i64 ((u).y).x.hi, .int .i64 ((u).y).y.lo, .int .i64 ((u).y).y.hi, .int .i64 ((u).y).z.lo, .int .i64 ((u).y).z.hi, .int .i64 ((u).z).x.lo, .int .i64 ((u).z).x.hi, .int .i64 ((u).z).y.lo, .int .i64 ((u).z).y.hi, .int .i64 ((u).z).z.lo, .int .i64 ((u).z).z.hi] 26)).alloc (.cells #[.int .i64 ((v).x).x.lo, .int .i64 ((v).x).x.hi, .int .i64 ((v).x).y.lo, .int .i64 ((v).x).y.hi, .int .i64 ((v).x).z.lo, .int .i64 ((v).x).z.hi, .int .i64 ((v).y).x.lo, .int .i64 ((v).y).x.hi, .int .i64 ((v).y).y.lo, .int .i64 ((v).y).y.hi, .int .i64 ((v).y).z.lo, .int .i64 ((v).y).z.hi, .int .i64 ((v).z).x.lo, .int .i64 ((v).z).x.hi, .int .i64 ((v).z).y.lo, .int .i64 ((v).z).y.hi, .int .i64 ((v).z).z.lo, .int .i64 ((v).z).z.hi] 26)) from below_alloc (below_alloc (Below.refl _ _) _) _)
  by_cases h1 : withinVB u.x v.x = true
  · by_cases h2 : withinVB u.y v.y = true
    · go_enter Try.func66, Try.ntmps66
      go_wp2_with fail
      obtain ⟨V, hV⟩ : ∃ V : World, V = ((w.alloc (.cells #[.int .i64 ((u).x).x.lo, .int .i64 ((u).x).x.hi, .int .i64 ((u).x).y.lo, .int .i64 ((u).x).y.hi, .int .i64 ((u).x).z.lo, .int .i64 ((u).x).z.hi, .int .i64 ((u).y).x.lo, .int .i64 ((u).y).x.hi, .int .i64 ((u).y).y.lo, .int .i64 ((u).y).y.hi, .int .i64 ((u).y).z.lo, .int .i64 ((u).y).z.hi, .int .i64 ((u).z).x.lo, .int .i64 ((u).z).x.hi, .int .i64 ((u).z).y.lo, .int .i64 ((u).z).y.hi, .int .i64 ((u).z).z.lo, .int .i64 ((u).z).z.hi] 26)).alloc (.cells #[.int .i64 ((v).x).x.lo, .int .i64 ((v).x).x.hi, .int .i64 ((v).x).y.lo, .int .i64 ((v).x).y.hi, .int .i64 ((v).x).z.lo, .int .i64 ((v).x).z.hi, .int .i64 ((v).y).x.lo, .int .i64 ((v).y).x.hi, .int .i64 ((v).y).y.lo, .int .i64 ((v).y).y.hi, .int .i64 ((v).y).z.lo, .int .i64 ((v).y).z.hi, .int .i64 ((v).z).x.lo, .int .i64 ((v).z).x.hi, .int .i64 ((v).z).y.lo, .int .i64 ((v).z).y.hi, .int .i64 ((v).z).z.lo, .int .i64 ((v).z).z.hi] 26)) := ⟨_, rfl⟩
      rw [← hV] at U0 V0 B0 ⊢
      clear hV
      have a0 := U0.out.c0
      have b0 := V0.out.c0
      have a1 := U0.out.c1
      have b1 := V0.out.c1
      have a2 := U0.out.c2
      have b2 := V0.out.c2
      have a3 := U0.out.c3
      have b3 := V0.out.c3
      have a4 := U0.out.c4
      have b4 := V0.out.c4
      have a5 := U0.out.c5
      have b5 := V0.out.c5
      have a6 := U0.out.c6
      have b6 := V0.out.c6
      have a7 := U0.out.c7
      have b7 := V0.out.c7
      have a8 := U0.out.c8
      have b8 := V0.out.c8
      have a9 := U0.out.c9
      have b9 := V0.out.c9
      have a10 := U0.out.c10
      have b10 := V0.out.c10
      have a11 := U0.out.c11
      have b11 := V0.out.c11
      have a12 := U0.out.c12
      have b12 := V0.out.c12
      have a13 := U0.out.c13
      have b13 := V0.out.c13
      have a14 := U0.out.c14
      have b14 := V0.out.c14
      have a15 := U0.out.c15
      have b15 := V0.out.c15
      have a16 := U0.out.c16
      have b16 := V0.out.c16
      have a17 := U0.out.c17
      have b17 := V0.out.c17
      have q : w.heap.size + 1 < V.heap.size := V0.out.lt
      have q' : w.heap.size < V.heap.size := U0.out.lt
      refine (rWithinVec_any u.x v.x _).mono ?_
      rintro e w1 ⟨rfl, hb⟩
      obtain ⟨hc, hf⟩ := bcell hb
      go_wp2_with fail
      refine (rWithinVec_any u.y v.y _).mono ?_
      rintro e w2 ⟨rfl, hb2⟩
      replace hb := below_next hb2 hb
      clear hb2 hc hf
      obtain ⟨hc, hf⟩ := bcell hb
      go_wp2_with fail
      refine (rWithinVec_any u.z v.z _).mono ?_
      rintro e w2 ⟨rfl, hb2⟩
      replace hb := below_next hb2 hb
      clear hb2 hc hf
      obtain ⟨hc, hf⟩ := bcell hb
      go_wp2_with fail
      go_ret
      exact ⟨ret_bool (by unfold withinMB; simp [h1, h2]), below_next hb B0.out⟩
    · have h2f : withinVB u.y v.y = false := by simpa using h2
      clear h2
      go_enter Try.func66, Try.ntmps66
      go_wp2_with fail
      obtain ⟨V, hV⟩ : ∃ V : World, V = ((w.alloc (.cells #[.int .i64 ((u).x).x.lo, .int .i64 ((u).x).x.hi, .int .i64 ((u).x).y.lo, .int .i64 ((u).x).y.hi, .int .i64 ((u).x).z.lo, .int .i64 ((u).x).z.hi, .int .i64 ((u).y).x.lo, .int .i64 ((u).y).x.hi, .int .i64 ((u).y).y.lo, .int .i64 ((u).y).y.hi, .int .i64 ((u).y).z.lo, .int .i64 ((u).y).z.hi, .int .i64 ((u).z).x.lo, .int .i64 ((u).z).x.hi, .int .i64 ((u).z).y.lo, .int .i64 ((u).z).y.hi, .int .i64 ((u).z).z.lo, .int .i64 ((u).z).z.hi] 26)).alloc (.cells #[.int .i64 ((v).x).x.lo, .int .i64 ((v).x).x.hi, .int .i64 ((v).x).y.lo, .int .i64 ((v).x).y.hi, .int .i64 ((v).x).z.lo, .int .i64 ((v).x).z.hi, .int .i64 ((v).y).x.lo, .int .i64 ((v).y).x.hi, .int .i64 ((v).y).y.lo, .int .i64 ((v).y).y.hi, .int .i64 ((v).y).z.lo, .int .i64 ((v).y).z.hi, .int .i64 ((v).z).x.lo, .int .i64 ((v).z).x.hi, .int .i64 ((v).z).y.lo, .int .i64 ((v).z).y.hi, .int .i64 ((v).z).z.lo, .int .i64 ((v).z).z.hi] 26)) := ⟨_, rfl⟩
      rw [← hV] at U0 V0 B0 ⊢
      clear hV
      have a0 := U0.out.c0
      have b0 := V0.out.c0
      have a1 := U0.out.c1
      have b1 := V0.out.c1
      have a2 := U0.out.c2
      have b2 := V0.out.c2
      have a3 := U0.out.c3
      have b3 := V0.out.c3
      have a4 := U0.out.c4
      have b4 := V0.out.c4
      have a5 := U0.out.c5
      have b5 := V0.out.c5
      have a6 := U0.out.c6
      have b6 := V0.out.c6
      have a7 := U0.out.c7
      have b7 := V0.out.c7
      have a8 := U0.out.c8
      have b8 := V0.out.c8
      have a9 := U0.out.c9
      have b9 := V0.out.c9
      have a10 := U0.out.c10
      have b10 := V0.out.c10
      have a11 := U0.out.c11
      have b11 := V0.out.c11
      have a12 := U0.out.c12
      have b12 := V0.out.c12
      have a13 := U0.out.c13
      have b13 := V0.out.c13
      have a14 := U0.out.c14
      have b14 := V0.out.c14
      have a15 := U0.out.c15
      have b15 := V0.out.c15
      have a16 := U0.out.c16
      have b16 := V0.out.c16
      have a17 := U0.out.c17
      have b17 := V0.out.c17
      have q : w.heap.size + 1 < V.heap.size := V0.out.lt
      have q' : w.heap.size < V.heap.size := U0.out.lt
      refine (rWithinVec_any u.x v.x _).mono ?_
      rintro e w1 ⟨rfl, hb⟩
      obtain ⟨hc, hf⟩ := bcell hb
      go_wp2_with fail
      refine (rWithinVec_any u.y v.y _).mono ?_
      rintro e w2 ⟨rfl, hb2⟩
      replace hb := below_next hb2 hb
      clear hb2 hc hf
      obtain ⟨hc, hf⟩ := bcell hb
      go_wp2_with fail
      go_ret
      exact ⟨ret_bool (by unfold withinMB; simp [h1, h2f]), below_next hb B0.out⟩
  · have h1f : withinVB u.x v.x = false := by simpa using h1
    clear h1
    go_enter Try.func66, Try.ntmps66
    go_wp2_with fail
    obtain ⟨V, hV⟩ : ∃ V : World, V = ((w.alloc (.cells #[.int .i64 ((u).x).x.lo, .int .i64 ((u).x).x.hi, .int .i64 ((u).x).y.lo, .int .i64 ((u).x).y.hi, .int .i64 ((u).x).z.lo, .int .i64 ((u).x).z.hi, .int .i64 ((u).y).x.lo, .int .i64 ((u).y).x.hi, .int .i64 ((u).y).y.lo, .int .i64 ((u).y).y.hi, .int .i64 ((u).y).z.lo, .int .i64 ((u).y).z.hi, .int .i64 ((u).z).x.lo, .int .i64 ((u).z).x.hi, .int .i64 ((u).z).y.lo, .int .i64 ((u).z).y.hi, .int .i64 ((u).z).z.lo, .int .i64 ((u).z).z.hi] 26)).alloc (.cells #[.int .i64 ((v).x).x.lo, .int .i64 ((v).x).x.hi, .int .i64 ((v).x).y.lo, .int .i64 ((v).x).y.hi, .int .i64 ((v).x).z.lo, .int .i64 ((v).x).z.hi, .int .i64 ((v).y).x.lo, .int .i64 ((v).y).x.hi, .int .i64 ((v).y).y.lo, .int .i64 ((v).y).y.hi, .int .i64 ((v).y).z.lo, .int .i64 ((v).y).z.hi, .int .i64 ((v).z).x.lo, .int .i64 ((v).z).x.hi, .int .i64 ((v).z).y.lo, .int .i64 ((v).z).y.hi, .int .i64 ((v).z).z.lo, .int .i64 ((v).z).z.hi] 26)) := ⟨_, rfl⟩
    rw [← hV] at U0 V0 B0 ⊢
    clear hV
    have a0 := U0.out.c0
    have b0 := V0.out.c0
    have a1 := U0.out.c1
    have b1 := V0.out.c1
    have a2 := U0.out.c2
    have b2 := V0.out.c2
    have a3 := U0.out.c3
    have b3 := V0.out.c3
    have a4 := U0.out.c4
    have b4 := V0.out.c4
    have a5 := U0.out.c5
    have b5 := V0.out.c5
    have a6 := U0.out.c6
    have b6 := V0.out.c6
    have a7 := U0.out.c7
    have b7 := V0.out.c7
    have a8 := U0.out.c8
    have b8 := V0.out.c8
    have a9 := U0.out.c9
    have b9 := V0.out.c9
    have a10 := U0.out.c10
    have b10 := V0.out.c10
    have a11 := U0.out.c11
    have b11 := V0.out.c11
    have a12 := U0.out.c12
    have b12 := V0.out.c12
    have a13 := U0.out.c13
    have b13 := V0.out.c13
    have a14 := U0.out.c14
    have b14 := V0.out.c14
    have a15 := U0.out.c15
    have b15 := V0.out.c15
    have a16 := U0.out.c16
    have b16 := V0.out.c16
    have a17 := U0.out.c17
    have b17 := V0.out.c17
    have q : w.heap.size + 1 < V.heap.size := V0.out.lt
    have q' : w.heap.size < V.heap.size := U0.out.lt
    refine (rWithinVec_any u.x v.x _).mono ?_
    rintro e w1 ⟨rfl, hb⟩
    obtain ⟨hc, hf⟩ := bcell hb
    go_wp2_with fail
    go_ret
    exact ⟨ret_bool (by unfold withinMB; simp [h1f]), below_next hb B0.out⟩
end Go.Proofs.Ytdplgiccpjlelaa
