/- Proved: small facts on blocks that hold a vector or a matrix of intervals. Conditions: as each theorem states. -/
import Derived.Test.YtdaeacakgpjjgaaAngO
import Derived.Test.YtdaeacakgpjjgaaMat1
import Derived.Test.YtdaeacakgpjjgaaIvK
namespace Go.Proofs.Ytdaeacakgpjjgaa
open Go.RowKit

def vecC (v : V3) : Array Value := #[.int .i64 v.x.lo, .int .i64 v.x.hi, .int .i64 v.y.lo, .int .i64 v.y.hi, .int .i64 v.z.lo, .int .i64 v.z.hi]
/-- Block b holds v, and may be written. -/
def VecAt (W : World) (b : Nat) (v : V3) : Prop := W.heap[b]? = some (.cells (vecC v) 31 (0, 0))
theorem VecAt.lt {W : World} {b : Nat} {x : V3} (h : VecAt W b x) : b < W.heap.size := lt_heap h
theorem VecAt.below {W V : World} {b : Nat} {x : V3} (h : VecAt W b x) (hb : Below W.heap.size W V) : VecAt V b x := heap_up hb h.lt h
theorem VecAt.drew {W : World} {b : Nat} {x : V3} (h : VecAt W b x) : VecAt W.drew b x := h
theorem VecAt.alloc {W : World} {b : Nat} {x : V3} (h : VecAt W b x) (o : Obj) : VecAt (W.alloc o) b x := (Go.Deep.blk_alloc_lt _ _ _ h.lt).trans h
theorem VecAt.new (W : World) (v : V3) : VecAt (W.alloc (.cells #[.int .i64 v.x.lo, .int .i64 v.x.hi, .int .i64 v.y.lo, .int .i64 v.y.hi, .int .i64 v.z.lo, .int .i64 v.z.hi] 31)) W.heap.size v := heap_alloc_new _ _
theorem VecAt.at_new {V : World} {b : Nat} {v : V3} (hb : V.heap.size = b) : VecAt (V.alloc (.cells #[.int .i64 v.x.lo, .int .i64 v.x.hi, .int .i64 v.y.lo, .int .i64 v.y.hi, .int .i64 v.z.lo, .int .i64 v.z.hi] 31)) b v := by subst hb; exact heap_alloc_new _ _
theorem VecAt.far {W : World} {b q k : Nat} {x : V3} {v : Value} (h : VecAt W b x) (hq : b ≠ q) : VecAt (W.setCell ⟨q, k, none⟩ v) b x := (heap_setCell_other _ _ _ _ hq).trans h
theorem VecAt.row {W : World} {b q : Nat} {x : V3} {c : Array Value} (h : VecAt W b x) (hq : b ≠ q) : VecAt (W.setRow q c) b x := heap_far h hq
theorem VecAt.put {W : World} {b : Nat} {x : V3} (h : VecAt W b x) (y : V3) : VecAt (W.setRow b (vecC y)) b y := setRow_heap _ _ _ _ _ _ h
theorem VecAt.free {W : World} {b : Nat} {x : V3} (h : VecAt W b x) (k : Nat) : W.frozen? ⟨b, k, none⟩ = false := frozen_of_row W b k _ _ h
theorem VecAt.c0 {W : World} {b : Nat} {x : V3} (h : VecAt W b x) : W.cell? ⟨b, 0, none⟩ = some (.int .i64 x.x.lo) := by rw [cell_of_row W b 0 _ _ _ h]; rfl
theorem VecAt.c1 {W : World} {b : Nat} {x : V3} (h : VecAt W b x) : W.cell? ⟨b, 1, none⟩ = some (.int .i64 x.x.hi) := by rw [cell_of_row W b 1 _ _ _ h]; rfl
theorem VecAt.c2 {W : World} {b : Nat} {x : V3} (h : VecAt W b x) : W.cell? ⟨b, 2, none⟩ = some (.int .i64 x.y.lo) := by rw [cell_of_row W b 2 _ _ _ h]; rfl
theorem VecAt.c3 {W : World} {b : Nat} {x : V3} (h : VecAt W b x) : W.cell? ⟨b, 3, none⟩ = some (.int .i64 x.y.hi) := by rw [cell_of_row W b 3 _ _ _ h]; rfl
theorem VecAt.c4 {W : World} {b : Nat} {x : V3} (h : VecAt W b x) : W.cell? ⟨b, 4, none⟩ = some (.int .i64 x.z.lo) := by rw [cell_of_row W b 4 _ _ _ h]; rfl
theorem VecAt.c5 {W : World} {b : Nat} {x : V3} (h : VecAt W b x) : W.cell? ⟨b, 5, none⟩ = some (.int .i64 x.z.hi) := by rw [cell_of_row W b 5 _ _ _ h]; rfl
set_option maxHeartbeats 3200000 in
theorem VecAt.stores {W : World} {b : Nat} {x : V3} (h : VecAt W b x) (y : V3) : ((((((W.setCell ⟨b, 0, none⟩ (.int .i64 y.x.lo)).setCell ⟨b, 1, none⟩ (.int .i64 y.x.hi)).setCell ⟨b, 2, none⟩ (.int .i64 y.y.lo)).setCell ⟨b, 3, none⟩ (.int .i64 y.y.hi)).setCell ⟨b, 4, none⟩ (.int .i64 y.z.lo)).setCell ⟨b, 5, none⟩ (.int .i64 y.z.hi)) = W.setRow b (vecC y) := by
  have e0 := h
  unfold VecAt vecC at e0
  rw [setCell_eq_setRow _ b 0 _ _ _ (.int .i64 y.x.lo) e0]
  rw [setCell_eq_setRow _ b 1 _ _ _ (.int .i64 y.x.hi) (setRow_heap _ _ _ _ _ _ e0), setRow_setRow]
  rw [setCell_eq_setRow _ b 2 _ _ _ (.int .i64 y.y.lo) (setRow_heap _ _ _ _ _ _ e0), setRow_setRow]
  rw [setCell_eq_setRow _ b 3 _ _ _ (.int .i64 y.y.hi) (setRow_heap _ _ _ _ _ _ e0), setRow_setRow]
  rw [setCell_eq_setRow _ b 4 _ _ _ (.int .i64 y.z.lo) (setRow_heap _ _ _ _ _ _ e0), setRow_setRow]
  rw [setCell_eq_setRow _ b 5 _ _ _ (.int .i64 y.z.hi) (setRow_heap _ _ _ _ _ _ e0), setRow_setRow]
  exact congrArg (World.setRow W b) (by kernel_rfl)
def matC (v : M3) : Array Value := #[.int .i64 v.x.x.lo, .int .i64 v.x.x.hi, .int .i64 v.x.y.lo, .int .i64 v.x.y.hi, .int .i64 v.x.z.lo, .int .i64 v.x.z.hi, .int .i64 v.y.x.lo, .int .i64 v.y.x.hi, .int .i64 v.y.y.lo, .int .i64 v.y.y.hi, .int .i64 v.y.z.lo, .int .i64 v.y.z.hi, .int .i64 v.z.x.lo, .int .i64 v.z.x.hi, .int .i64 v.z.y.lo, .int .i64 v.z.y.hi, .int .i64 v.z.z.lo, .int .i64 v.z.z.hi]
/-- Block b holds v, and may be written. -/
def MatAt (W : World) (b : Nat) (v : M3) : Prop := W.heap[b]? = some (.cells (matC v) 28 (0, 0))
theorem MatAt.lt {W : World} {b : Nat} {x : M3} (h : MatAt W b x) : b < W.heap.size := lt_heap h
theorem MatAt.below {W V : World} {b : Nat} {x : M3} (h : MatAt W b x) (hb : Below W.heap.size W V) : MatAt V b x := heap_up hb h.lt h
theorem MatAt.drew {W : World} {b : Nat} {x : M3} (h : MatAt W b x) : MatAt W.drew b x := h
theorem MatAt.alloc {W : World} {b : Nat} {x : M3} (h : MatAt W b x) (o : Obj) : MatAt (W.alloc o) b x := (Go.Deep.blk_alloc_lt _ _ _ h.lt).trans h
theorem MatAt.new (W : World) (v : M3) : MatAt (W.alloc (.cells #[.int .i64 v.x.x.lo, .int .i64 v.x.x.hi, .int .i64 v.x.y.lo, .int .i64 v.x.y.hi, .int .i64 v.x.z.lo, .int .i64 v.x.z.hi, .int .i64 v.y.x.lo, .int .i64 v.y.x.hi, .int .i64 v.y.y.lo, .int .i64 v.y.y.hi, .int .i64 v.y.z.lo, .int .i64 v.y.z.hi, .int .i64 v.z.x.lo, .int .i64 v.z.x.hi, .int .i64 v.z.y.lo, .int .i64 v.z.y.hi, .int .i64 v.z.z.lo, .int .i64 v.z.z.hi] 28)) W.heap.size v := heap_alloc_new _ _
theorem MatAt.at_new {V : World} {b : Nat} {v : M3} (hb : V.heap.size = b) : MatAt (V.alloc (.cells #[.int .i64 v.x.x.lo, .int .i64 v.x.x.hi, .int .i64 v.x.y.lo, .int .i64 v.x.y.hi, .int .i64 v.x.z.lo, .int .i64 v.x.z.hi, .int .i64 v.y.x.lo, .int .i64 v.y.x.hi, .int .i64 v.y.y.lo, .int .i64 v.y.y.hi, .int .i64 v.y.z.lo, .int .i64 v.y.z.hi, .int .i64 v.z.x.lo, .int .i64 v.z.x.hi, .int .i64 v.z.y.lo, .int .i64 v.z.y.hi, .int .i64 v.z.z.lo, .int .i64 v.z.z.hi] 28)) b v := by subst hb; exact heap_alloc_new _ _
theorem MatAt.far {W : World} {b q k : Nat} {x : M3} {v : Value} (h : MatAt W b x) (hq : b ≠ q) : MatAt (W.setCell ⟨q, k, none⟩ v) b x := (heap_setCell_other _ _ _ _ hq).trans h
theorem MatAt.row {W : World} {b q : Nat} {x : M3} {c : Array Value} (h : MatAt W b x) (hq : b ≠ q) : MatAt (W.setRow q c) b x := heap_far h hq
theorem MatAt.put {W : World} {b : Nat} {x : M3} (h : MatAt W b x) (y : M3) : MatAt (W.setRow b (matC y)) b y := setRow_heap _ _ _ _ _ _ h
theorem MatAt.free {W : World} {b : Nat} {x : M3} (h : MatAt W b x) (k : Nat) : W.frozen? ⟨b, k, none⟩ = false := frozen_of_row W b k _ _ h
theorem MatAt.c0 {W : World} {b : Nat} {x : M3} (h : MatAt W b x) : W.cell? ⟨b, 0, none⟩ = some (.int .i64 x.x.x.lo) := by rw [cell_of_row W b 0 _ _ _ h]; rfl
theorem MatAt.c1 {W : World} {b : Nat} {x : M3} (h : MatAt W b x) : W.cell? ⟨b, 1, none⟩ = some (.int .i64 x.x.x.hi) := by rw [cell_of_row W b 1 _ _ _ h]; rfl
theorem MatAt.c2 {W : World} {b : Nat} {x : M3} (h : MatAt W b x) : W.cell? ⟨b, 2, none⟩ = some (.int .i64 x.x.y.lo) := by rw [cell_of_row W b 2 _ _ _ h]; rfl
theorem MatAt.c3 {W : World} {b : Nat} {x : M3} (h : MatAt W b x) : W.cell? ⟨b, 3, none⟩ = some (.int .i64 x.x.y.hi) := by rw [cell_of_row W b 3 _ _ _ h]; rfl
theorem MatAt.c4 {W : World} {b : Nat} {x : M3} (h : MatAt W b x) : W.cell? ⟨b, 4, none⟩ = some (.int .i64 x.x.z.lo) := by rw [cell_of_row W b 4 _ _ _ h]; rfl
theorem MatAt.c5 {W : World} {b : Nat} {x : M3} (h : MatAt W b x) : W.cell? ⟨b, 5, none⟩ = some (.int .i64 x.x.z.hi) := by rw [cell_of_row W b 5 _ _ _ h]; rfl
theorem MatAt.c6 {W : World} {b : Nat} {x : M3} (h : MatAt W b x) : W.cell? ⟨b, 6, none⟩ = some (.int .i64 x.y.x.lo) := by rw [cell_of_row W b 6 _ _ _ h]; rfl
theorem MatAt.c7 {W : World} {b : Nat} {x : M3} (h : MatAt W b x) : W.cell? ⟨b, 7, none⟩ = some (.int .i64 x.y.x.hi) := by rw [cell_of_row W b 7 _ _ _ h]; rfl
theorem MatAt.c8 {W : World} {b : Nat} {x : M3} (h : MatAt W b x) : W.cell? ⟨b, 8, none⟩ = some (.int .i64 x.y.y.lo) := by rw [cell_of_row W b 8 _ _ _ h]; rfl
theorem MatAt.c9 {W : World} {b : Nat} {x : M3} (h : MatAt W b x) : W.cell? ⟨b, 9, none⟩ = some (.int .i64 x.y.y.hi) := by rw [cell_of_row W b 9 _ _ _ h]; rfl
theorem MatAt.c10 {W : World} {b : Nat} {x : M3} (h : MatAt W b x) : W.cell? ⟨b, 10, none⟩ = some (.int .i64 x.y.z.lo) := by rw [cell_of_row W b 10 _ _ _ h]; rfl
theorem MatAt.c11 {W : World} {b : Nat} {x : M3} (h : MatAt W b x) : W.cell? ⟨b, 11, none⟩ = some (.int .i64 x.y.z.hi) := by rw [cell_of_row W b 11 _ _ _ h]; rfl
theorem MatAt.c12 {W : World} {b : Nat} {x : M3} (h : MatAt W b x) : W.cell? ⟨b, 12, none⟩ = some (.int .i64 x.z.x.lo) := by rw [cell_of_row W b 12 _ _ _ h]; rfl
theorem MatAt.c13 {W : World} {b : Nat} {x : M3} (h : MatAt W b x) : W.cell? ⟨b, 13, none⟩ = some (.int .i64 x.z.x.hi) := by rw [cell_of_row W b 13 _ _ _ h]; rfl
theorem MatAt.c14 {W : World} {b : Nat} {x : M3} (h : MatAt W b x) : W.cell? ⟨b, 14, none⟩ = some (.int .i64 x.z.y.lo) := by rw [cell_of_row W b 14 _ _ _ h]; rfl
theorem MatAt.c15 {W : World} {b : Nat} {x : M3} (h : MatAt W b x) : W.cell? ⟨b, 15, none⟩ = some (.int .i64 x.z.y.hi) := by rw [cell_of_row W b 15 _ _ _ h]; rfl
theorem MatAt.c16 {W : World} {b : Nat} {x : M3} (h : MatAt W b x) : W.cell? ⟨b, 16, none⟩ = some (.int .i64 x.z.z.lo) := by rw [cell_of_row W b 16 _ _ _ h]; rfl
theorem MatAt.c17 {W : World} {b : Nat} {x : M3} (h : MatAt W b x) : W.cell? ⟨b, 17, none⟩ = some (.int .i64 x.z.z.hi) := by rw [cell_of_row W b 17 _ _ _ h]; rfl
set_option maxHeartbeats 3200000 in
theorem MatAt.stores {W : World} {b : Nat} {x : M3} (h : MatAt W b x) (y : M3) : ((((((((((((((((((W.setCell ⟨b, 0, none⟩ (.int .i64 y.x.x.lo)).setCell ⟨b, 1, none⟩ (.int .i64 y.x.x.hi)).setCell ⟨b, 2, none⟩ (.int .i64 y.x.y.lo)).setCell ⟨b, 3, none⟩ (.int .i64 y.x.y.hi)).setCell ⟨b, 4, none⟩ (.int .i64 y.x.z.lo)).setCell ⟨b, 5, none⟩ (.int .i64 y.x.z.hi)).setCell ⟨b, 6, none⟩ (.int .i64 y.y.x.lo)).setCell ⟨b, 7, none⟩ (.int .i64 y.y.x.hi)).setCell ⟨b, 8, none⟩ (.int .i64 y.y.y.lo)).setCell ⟨b, 9, none⟩ (.int .i64 y.y.y.hi)).setCell ⟨b, 10, none⟩ (.int .i64 y.y.z.lo)).setCell ⟨b, 11, none⟩ (.int .i64 y.y.z.hi)).setCell ⟨b, 12, none⟩ (.int .i64 y.z.x.lo)).setCell ⟨b, 13, none⟩ (.int .i64 y.z.x.hi)).setCell ⟨b, 14, none⟩ (.int .i64 y.z.y.lo)).setCell ⟨b, 15, none⟩ (.int .i64 y.z.y.hi)).setCell ⟨b, 16, none⟩ (.int .i64 y.z.z.lo)).setCell ⟨b, 17, none⟩ (.int .i64 y.z.z.hi)) = W.setRow b (matC y) := by
  have e0 := h
  unfold MatAt matC at e0
  rw [setCell_eq_setRow _ b 0 _ _ _ (.int .i64 y.x.x.lo) e0]
  rw [setCell_eq_setRow _ b 1 _ _ _ (.int .i64 y.x.x.hi) (setRow_heap _ _ _ _ _ _ e0), setRow_setRow]
  rw [setCell_eq_setRow _ b 2 _ _ _ (.int .i64 y.x.y.lo) (setRow_heap _ _ _ _ _ _ e0), setRow_setRow]
  rw [setCell_eq_setRow _ b 3 _ _ _ (.int .i64 y.x.y.hi) (setRow_heap _ _ _ _ _ _ e0), setRow_setRow]
  rw [setCell_eq_setRow _ b 4 _ _ _ (.int .i64 y.x.z.lo) (setRow_heap _ _ _ _ _ _ e0), setRow_setRow]
  rw [setCell_eq_setRow _ b 5 _ _ _ (.int .i64 y.x.z.hi) (setRow_heap _ _ _ _ _ _ e0), setRow_setRow]
  rw [setCell_eq_setRow _ b 6 _ _ _ (.int .i64 y.y.x.lo) (setRow_heap _ _ _ _ _ _ e0), setRow_setRow]
  rw [setCell_eq_setRow _ b 7 _ _ _ (.int .i64 y.y.x.hi) (setRow_heap _ _ _ _ _ _ e0), setRow_setRow]
  rw [setCell_eq_setRow _ b 8 _ _ _ (.int .i64 y.y.y.lo) (setRow_heap _ _ _ _ _ _ e0), setRow_setRow]
  rw [setCell_eq_setRow _ b 9 _ _ _ (.int .i64 y.y.y.hi) (setRow_heap _ _ _ _ _ _ e0), setRow_setRow]
  rw [setCell_eq_setRow _ b 10 _ _ _ (.int .i64 y.y.z.lo) (setRow_heap _ _ _ _ _ _ e0), setRow_setRow]
  rw [setCell_eq_setRow _ b 11 _ _ _ (.int .i64 y.y.z.hi) (setRow_heap _ _ _ _ _ _ e0), setRow_setRow]
  rw [setCell_eq_setRow _ b 12 _ _ _ (.int .i64 y.z.x.lo) (setRow_heap _ _ _ _ _ _ e0), setRow_setRow]
  rw [setCell_eq_setRow _ b 13 _ _ _ (.int .i64 y.z.x.hi) (setRow_heap _ _ _ _ _ _ e0), setRow_setRow]
  rw [setCell_eq_setRow _ b 14 _ _ _ (.int .i64 y.z.y.lo) (setRow_heap _ _ _ _ _ _ e0), setRow_setRow]
  rw [setCell_eq_setRow _ b 15 _ _ _ (.int .i64 y.z.y.hi) (setRow_heap _ _ _ _ _ _ e0), setRow_setRow]
  rw [setCell_eq_setRow _ b 16 _ _ _ (.int .i64 y.z.z.lo) (setRow_heap _ _ _ _ _ _ e0), setRow_setRow]
  rw [setCell_eq_setRow _ b 17 _ _ _ (.int .i64 y.z.z.hi) (setRow_heap _ _ _ _ _ _ e0), setRow_setRow]
  exact congrArg (World.setRow W b) (by kernel_rfl)
theorem info_vec : (Try.prog.info? 31).map (·.size) = some 6 := by kernel_rfl
theorem under_vec : Try.prog.underlying 31 = some (.array 3 23) := by kernel_rfl
theorem info_mat : (Try.prog.info? 28).map (·.size) = some 18 := by kernel_rfl
theorem under_mat : Try.prog.underlying 28 = some (.array 3 26) := by kernel_rfl
theorem vec_one (v : V3) : (vecC v).all (·.oneCell') = true := by unfold vecC; simp [Value.oneCell']
theorem mat_one (m : M3) : (matC m).all (·.oneCell') = true := by unfold matC; simp [Value.oneCell']
end Go.Proofs.Ytdaeacakgpjjgaa
