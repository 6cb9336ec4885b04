/- Proved: small facts on blocks that hold an interval. Conditions: as each theorem states. -/
import Derived.Test.YtdplgiccpjlelaaAngC
namespace Go.Proofs.Ytdplgiccpjlelaa
open Go.RowKit

/-- Block b holds the interval x, and may be written. -/
def IvAt (W : World) (b : Nat) (x : Iv) : Prop := W.heap[b]? = some (.cells #[.int .i64 x.lo, .int .i64 x.hi] 23 (0, 0))
theorem IvAt.lt {W : World} {b : Nat} {x : Iv} (h : IvAt W b x) : b < W.heap.size := lt_heap h
theorem IvAt.c0 {W : World} {b : Nat} {x : Iv} (h : IvAt W b x) : W.cell? ⟨b, 0, none⟩ = some (.int .i64 x.lo) := by rw [cell_of_row W b 0 _ _ _ h]; rfl
theorem IvAt.c1 {W : World} {b : Nat} {x : Iv} (h : IvAt W b x) : W.cell? ⟨b, 1, none⟩ = some (.int .i64 x.hi) := by rw [cell_of_row W b 1 _ _ _ h]; rfl
theorem IvAt.f0 {W : World} {b : Nat} {x : Iv} (h : IvAt W b x) : W.frozen? ⟨b, 0, none⟩ = false := frozen_of_row W b 0 _ _ h
theorem IvAt.f1 {W : World} {b : Nat} {x : Iv} (h : IvAt W b x) : W.frozen? ⟨b, 1, none⟩ = false := frozen_of_row W b 1 _ _ h
theorem IvAt.below {W V : World} {b : Nat} {x : Iv} (h : IvAt W b x) (hb : Below W.heap.size W V) : IvAt V b x := heap_up hb h.lt h
theorem IvAt.drew {W : World} {b : Nat} {x : Iv} (h : IvAt W b x) : IvAt W.drew b x := h
theorem IvAt.alloc {W : World} {b : Nat} {x : Iv} (h : IvAt W b x) (o : Obj) : IvAt (W.alloc o) b x := (Go.Deep.blk_alloc_lt _ _ _ h.lt).trans h
theorem IvAt.new (W : World) (x : Iv) : IvAt (W.alloc (.cells #[.int .i64 x.lo, .int .i64 x.hi] 23)) W.heap.size x := heap_alloc_new _ _
theorem IvAt.at_new {V : World} {b : Nat} {x : Iv} (hb : V.heap.size = b) : IvAt (V.alloc (.cells #[.int .i64 x.lo, .int .i64 x.hi] 23)) b x := by subst hb; exact heap_alloc_new _ _
theorem IvAt.zero {V : World} {b : Nat} (hb : V.heap.size = b) : IvAt (V.alloc (.cells #[.int .i64 0, .int .i64 0] 23)) b zeroI := by subst hb; exact heap_alloc_new _ _
theorem IvAt.far {W : World} {b q k : Nat} {x : Iv} {v : Value} (h : IvAt W b x) (hq : b ≠ q) : IvAt (W.setCell ⟨q, k, none⟩ v) b x := (heap_setCell_other _ _ _ _ hq).trans h
theorem IvAt.set {W : World} {b : Nat} {x : Iv} (h : IvAt W b x) (y : Iv) : IvAt ((W.setCell ⟨b, 0, none⟩ (.int .i64 y.lo)).setCell ⟨b, 1, none⟩ (.int .i64 y.hi)) b y := by
  have h1 := heap_setCell_same W b 0 _ _ (.int .i64 y.lo) h
  exact heap_setCell_same _ b 1 _ _ (.int .i64 y.hi) h1
/-- What is known inside 'over': the argument's block, the result's, and that of the values. -/
structure OvIs (w W : World) (r n : Nat) (a x : Iv) : Prop where
  base : Below w.heap.size w W
  arg : IvAt W w.heap.size a
  res : IvAt W r zeroI
  val : IvAt W n x
  r1 : w.heap.size < r
  n1 : r < n
theorem OvIs.below {w W V : World} {r n : Nat} {a x : Iv} (h : OvIs w W r n a x) (hb : Below W.heap.size W V) : OvIs w V r n a x :=
  ⟨below_next hb h.base, h.arg.below hb, h.res.below hb, h.val.below hb, h.r1, h.n1⟩
theorem OvIs.drew {w W : World} {r n : Nat} {a x : Iv} (h : OvIs w W r n a x) : OvIs w W.drew r n a x := ⟨h.base.drew, h.arg, h.res, h.val, h.r1, h.n1⟩
theorem OvIs.set {w W : World} {r n : Nat} {a x : Iv} (h : OvIs w W r n a x) (y : Iv) : OvIs w ((W.setCell ⟨n, 0, none⟩ (.int .i64 y.lo)).setCell ⟨n, 1, none⟩ (.int .i64 y.hi)) r n a y :=
  ⟨(h.base.setCell (by have := h.r1; have := h.n1; dsimp only; omega) _).setCell (by have := h.r1; have := h.n1; dsimp only; omega) _, (h.arg.far (by have := h.r1; have := h.n1; omega)).far (by have := h.r1; have := h.n1; omega), (h.res.far (by have := h.n1; omega)).far (by have := h.n1; omega), h.val.set y, h.r1, h.n1⟩
theorem over_wide {a l h : Iv} {top bottom : Int} (hv : Valid a) (hw : 65536 ≤ a.hi - a.lo) : overI a l h top bottom = ⟨-65536, 65536⟩ := by unfold overI; rw [if_pos hv, if_pos hw]
theorem over_not {a l h : Iv} {top bottom : Int} (hv : ¬Valid a) : overI a l h top bottom = zeroI := by unfold overI; rw [if_neg hv]
theorem over_in {a l h : Iv} {top bottom : Int} (hv : Valid a) (hw : ¬65536 ≤ a.hi - a.lo) : overI a l h top bottom = withBottom a (withTop a (hulI l h) top) bottom := by unfold overI; rw [if_pos hv, if_neg hw]
theorem wid_valid {a : Iv} (hv : Valid a) : widI a = a.hi - a.lo := by unfold widI; rw [if_pos hv]
end Go.Proofs.Ytdplgiccpjlelaa
