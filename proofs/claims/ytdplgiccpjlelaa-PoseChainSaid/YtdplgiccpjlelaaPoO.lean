/- Proved: small facts on blocks that hold a pose. Conditions: as each theorem states. -/
import Derived.Test.YtdplgiccpjlelaaMtF
import Derived.Test.YtdplgiccpjlelaaPos
namespace Go.Proofs.Ytdplgiccpjlelaa
open Go.RowKit

def poseC (p : Mo) : Array Value := #[.int .i64 p.r.x.x.lo, .int .i64 p.r.x.x.hi, .int .i64 p.r.x.y.lo, .int .i64 p.r.x.y.hi, .int .i64 p.r.x.z.lo, .int .i64 p.r.x.z.hi, .int .i64 p.r.y.x.lo, .int .i64 p.r.y.x.hi, .int .i64 p.r.y.y.lo, .int .i64 p.r.y.y.hi, .int .i64 p.r.y.z.lo, .int .i64 p.r.y.z.hi, .int .i64 p.r.z.x.lo, .int .i64 p.r.z.x.hi, .int .i64 p.r.z.y.lo, .int .i64 p.r.z.y.hi, .int .i64 p.r.z.z.lo, .int .i64 p.r.z.z.hi, .int .i64 p.t.x.lo, .int .i64 p.t.x.hi, .int .i64 p.t.y.lo, .int .i64 p.t.y.hi, .int .i64 p.t.z.lo, .int .i64 p.t.z.hi]
/-- Block b holds p, and may be written. -/
def PoseAt (W : World) (b : Nat) (p : Mo) : Prop := W.heap[b]? = some (.cells (poseC p) 29 (0, 0))
def zeroP : Mo := ⟨zeroM, zeroV⟩
theorem PoseAt.lt {W : World} {b : Nat} {x : Mo} (h : PoseAt W b x) : b < W.heap.size := lt_heap h
theorem PoseAt.below {W V : World} {b : Nat} {x : Mo} (h : PoseAt W b x) (hb : Below W.heap.size W V) : PoseAt V b x := heap_up hb h.lt h
theorem PoseAt.drew {W : World} {b : Nat} {x : Mo} (h : PoseAt W b x) : PoseAt W.drew b x := h
theorem PoseAt.alloc {W : World} {b : Nat} {x : Mo} (h : PoseAt W b x) (o : Obj) : PoseAt (W.alloc o) b x := (Go.Deep.blk_alloc_lt _ _ _ h.lt).trans h
theorem PoseAt.at_new {V : World} {b : Nat} {v : Mo} (hb : V.heap.size = b) : PoseAt (V.alloc (.cells #[.int .i64 ((v).r.x).x.lo, .int .i64 ((v).r.x).x.hi, .int .i64 ((v).r.x).y.lo, .int .i64 ((v).r.x).y.hi, .int .i64 ((v).r.x).z.lo, .int .i64 ((v).r.x).z.hi, .int .i64 ((v).r.y).x.lo, .int .i64 ((v).r.y).x.hi, .int .i64 ((v).r.y).y.lo, .int .i64 ((v).r.y).y.hi, .int .i64 ((v).r.y).z.lo, .int .i64 ((v).r.y).z.hi, .int .i64 ((v).r.z).x.lo, .int .i64 ((v).r.z).x.hi, .int .i64 ((v).r.z).y.lo, .int .i64 ((v).r.z).y.hi, .int .i64 ((v).r.z).z.lo, .int .i64 ((v).r.z).z.hi, .int .i64 ((v).t).x.lo, .int .i64 ((v).t).x.hi, .int .i64 ((v).t).y.lo, .int .i64 ((v).t).y.hi, .int .i64 ((v).t).z.lo, .int .i64 ((v).t).z.hi] 29)) b v := by subst hb; exact heap_alloc_new _ _
theorem PoseAt.row {W : World} {b q : Nat} {x : Mo} {c : Array Value} (h : PoseAt W b x) (hq : b ≠ q) : PoseAt (W.setRow q c) b x := heap_far h hq
theorem PoseAt.put {W : World} {b : Nat} {x : Mo} (h : PoseAt W b x) (y : Mo) : PoseAt (W.setRow b (poseC y)) b y := setRow_heap _ _ _ _ _ _ h
theorem PoseAt.free {W : World} {b : Nat} {x : Mo} (h : PoseAt W b x) (k : Nat) : W.frozen? ⟨b, k, none⟩ = false := frozen_of_row W b k _ _ h
theorem PoseAt.rr {W : World} {b : Nat} {x : Mo} (h : PoseAt W b x) : W.rangeAt b 0 (matC x.r).toList := by
  intro j v hv
  rw [cell_of_row W b _ _ _ _ h]
  match j, hv with
  | 0, hv => exact hv
  | 1, hv => exact hv
  | 2, hv => exact hv
  | 3, hv => exact hv
  | 4, hv => exact hv
  | 5, hv => exact hv
  | 6, hv => exact hv
  | 7, hv => exact hv
  | 8, hv => exact hv
  | 9, hv => exact hv
  | 10, hv => exact hv
  | 11, hv => exact hv
  | 12, hv => exact hv
  | 13, hv => exact hv
  | 14, hv => exact hv
  | 15, hv => exact hv
  | 16, hv => exact hv
  | 17, hv => exact hv
  | j + 18, hv => exact absurd hv (by simp [matC])
theorem PoseAt.tt {W : World} {b : Nat} {x : Mo} (h : PoseAt W b x) : W.rangeAt b 18 (vecC x.t).toList := by
  intro j v hv
  rw [cell_of_row W b _ _ _ _ h]
  match j, hv with
  | 0, hv => exact hv
  | 1, hv => exact hv
  | 2, hv => exact hv
  | 3, hv => exact hv
  | 4, hv => exact hv
  | 5, hv => exact hv
  | j + 6, hv => exact absurd hv (by simp [vecC])
theorem info_pose : (Try.prog.info? 29).map (·.size) = some 24 := by kernel_rfl
theorem under_pose : Try.prog.underlying 29 = some (.struct (Try.prog.fieldsOf 29)) := by kernel_rfl
theorem pose_one (v : Mo) : (poseC v).all (·.oneCell') = true := by unfold poseC; simp [Value.oneCell']
/-- The load of a part of a block whose guard says yes. -/
theorem wpList_load_mid_if {P : Program} {ops : Array Oper} {rest : List Oper} {op : Oper} {a : Act} {w : World} {Q : Exit → Act → World → Prop} (hw : Region.wanted op (yielded ops a.tmps) = true) (ty : TypeId) (x : Operand) (ho : op.op = .load ty x)
    (b o : Nat) (hx : a.eval x = .pointer (some ⟨b, o, none⟩)) (cs : List Value) (d : TypeDesc) (hc : w.rangeAt b o cs)
    (hu : P.underlying ty = some d) (hd : d.isRow = true) (hi : (P.info? ty).map (·.size) = some cs.length)
    (h : wpList P ops Q rest (a.put op.dst (.agg cs.toArray)) w) : wpList P ops Q (op :: rest) a w :=
  wpList_step fun K hK => by rw [if_pos hw]; exact wp_load_mid ty x ho b o hx cs d hc hu hd hi (hK _ _ h)
end Go.Proofs.Ytdplgiccpjlelaa
