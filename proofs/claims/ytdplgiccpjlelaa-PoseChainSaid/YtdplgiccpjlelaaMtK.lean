/- Proved: vectors and matrices of intervals equal themselves; the sanity check of the statements of layer 4; small facts on lists that came in; small facts on the functions of matrices, with the values that are expected; helper of a statement of layer 4: square; small facts for the statement MatrixMonotone. Conditions: as each theorem states. -/
import Derived.Test.YtdplgiccpjlelaaMtF
import Derived.Test.YtdplgiccpjlelaaMtT
import Derived.Test.YtdplgiccpjlelaaMat5
import Derived.ChangeKeysEq
import Derived.Test.YtdplgiccpjlelaaList
import Derived.Test.YtdplgiccpjlelaaMak4
import Derived.Test.YtdplgiccpjlelaaMatF
import Derived.Test.YtdplgiccpjlelaaIvM
namespace Go.Proofs.Ytdplgiccpjlelaa
open Go.RowKit

set_option maxRecDepth 100000 in
set_option maxHeartbeats 3200000 in
theorem eql_in_row (d : Nat) (x0 x1 x2 x3 x4 x5 : Int) (w : World) : (Op.equalIn (d + 3) 24 (.agg #[.int .i64 x0, .int .i64 x1, .int .i64 x2, .int .i64 x3, .int .i64 x4, .int .i64 x5]) (.agg #[.int .i64 x0, .int .i64 x1, .int .i64 x2, .int .i64 x3, .int .i64 x4, .int .i64 x5])).run Try.prog w = .ok true w := by
  obtain ⟨i, hi⟩ : ∃ i, Try.prog.info? 23 = some i := ⟨_, rfl⟩
  rw [run_equalIn_array w (d + 2) _ _ under_row hi, show Try.prog.cellsOf 23 = 2 from rfl]
  simp [Op.eqItems, part, go_sem, List.range, List.range.loop]
set_option maxRecDepth 100000 in
set_option maxHeartbeats 3200000 in
theorem eql_in_vec (d : Nat) (x0 x1 x2 x3 x4 x5 : Int) (w : World) : (Op.equalIn (d + 3) 27 (.agg #[.int .i64 x0, .int .i64 x1, .int .i64 x2, .int .i64 x3, .int .i64 x4, .int .i64 x5]) (.agg #[.int .i64 x0, .int .i64 x1, .int .i64 x2, .int .i64 x3, .int .i64 x4, .int .i64 x5])).run Try.prog w = .ok true w := by
  obtain ⟨i, hi⟩ : ∃ i, Try.prog.info? 23 = some i := ⟨_, rfl⟩
  rw [run_equalIn_array w (d + 2) _ _ under_vec hi, show Try.prog.cellsOf 23 = 2 from rfl]
  simp [Op.eqItems, part, go_sem, List.range, List.range.loop]
set_option maxRecDepth 100000 in
set_option maxHeartbeats 3200000 in
theorem eql_in_mat (d : Nat) (x0 x1 x2 x3 x4 x5 x6 x7 x8 x9 x10 x11 x12 x13 x14 x15 x16 x17 : Int) (w : World) : (Op.equalIn (d + 4) 26 (.agg #[.int .i64 x0, .int .i64 x1, .int .i64 x2, .int .i64 x3, .int .i64 x4, .int .i64 x5, .int .i64 x6, .int .i64 x7, .int .i64 x8, .int .i64 x9, .int .i64 x10, .int .i64 x11, .int .i64 x12, .int .i64 x13, .int .i64 x14, .int .i64 x15, .int .i64 x16, .int .i64 x17]) (.agg #[.int .i64 x0, .int .i64 x1, .int .i64 x2, .int .i64 x3, .int .i64 x4, .int .i64 x5, .int .i64 x6, .int .i64 x7, .int .i64 x8, .int .i64 x9, .int .i64 x10, .int .i64 x11, .int .i64 x12, .int .i64 x13, .int .i64 x14, .int .i64 x15, .int .i64 x16, .int .i64 x17])).run Try.prog w = .ok true w := by
  obtain ⟨i, hi⟩ : ∃ i, Try.prog.info? 24 = some i := ⟨_, rfl⟩
  rw [run_equalIn_array w (d + 3) _ _ under_mat hi, show Try.prog.cellsOf 24 = 6 from rfl]
  have E := eql_in_row d
  simp [Op.eqItems, part, go_sem, List.range, List.range.loop, E]
theorem eql_vec (x0 x1 x2 x3 x4 x5 : Int) (w : World) : (Op.equalIn 10000 27 (.agg #[.int .i64 x0, .int .i64 x1, .int .i64 x2, .int .i64 x3, .int .i64 x4, .int .i64 x5]) (.agg #[.int .i64 x0, .int .i64 x1, .int .i64 x2, .int .i64 x3, .int .i64 x4, .int .i64 x5])).run Try.prog w = .ok true w := eql_in_vec 9997 x0 x1 x2 x3 x4 x5 w
theorem eql_mat (x0 x1 x2 x3 x4 x5 x6 x7 x8 x9 x10 x11 x12 x13 x14 x15 x16 x17 : Int) (w : World) : (Op.equalIn 10000 26 (.agg #[.int .i64 x0, .int .i64 x1, .int .i64 x2, .int .i64 x3, .int .i64 x4, .int .i64 x5, .int .i64 x6, .int .i64 x7, .int .i64 x8, .int .i64 x9, .int .i64 x10, .int .i64 x11, .int .i64 x12, .int .i64 x13, .int .i64 x14, .int .i64 x15, .int .i64 x16, .int .i64 x17]) (.agg #[.int .i64 x0, .int .i64 x1, .int .i64 x2, .int .i64 x3, .int .i64 x4, .int .i64 x5, .int .i64 x6, .int .i64 x7, .int .i64 x8, .int .i64 x9, .int .i64 x10, .int .i64 x11, .int .i64 x12, .int .i64 x13, .int .i64 x14, .int .i64 x15, .int .i64 x16, .int .i64 x17])).run Try.prog w = .ok true w := eql_in_mat 9996 x0 x1 x2 x3 x4 x5 x6 x7 x8 x9 x10 x11 x12 x13 x14 x15 x16 x17 w
theorem mApply_as {m : M3} {v u : V3} (w : World) (h : appM m v = u) :
    Calls Try.prog 45 #[ .agg #[.int .i64 ((m).x).x.lo, .int .i64 ((m).x).x.hi, .int .i64 ((m).x).y.lo, .int .i64 ((m).x).y.hi, .int .i64 ((m).x).z.lo, .int .i64 ((m).x).z.hi, .int .i64 ((m).y).x.lo, .int .i64 ((m).y).x.hi, .int .i64 ((m).y).y.lo, .int .i64 ((m).y).y.hi, .int .i64 ((m).y).z.lo, .int .i64 ((m).y).z.hi, .int .i64 ((m).z).x.lo, .int .i64 ((m).z).x.hi, .int .i64 ((m).z).y.lo, .int .i64 ((m).z).y.hi, .int .i64 ((m).z).z.lo, .int .i64 ((m).z).z.hi], .agg #[.int .i64 (v).x.lo, .int .i64 (v).x.hi, .int .i64 (v).y.lo, .int .i64 (v).y.hi, .int .i64 (v).z.lo, .int .i64 (v).z.hi] ] w fun e w' => e = .returned (.agg #[.int .i64 (u).x.lo, .int .i64 (u).x.hi, .int .i64 (u).y.lo, .int .i64 (u).y.hi, .int .i64 (u).z.lo, .int .i64 (u).z.hi]) ∧ Below w.heap.size w w' := by subst h; exact mApply_any m v w
theorem awake_app : appM (trnM 2 (ofI 16384)) (pntV 3 5 7) = pntV (-5) 3 7 := by rw [quarter_eq]; kernel_rfl
theorem awake_in : withinVB (pntV (-5) 3 7) (pntV (-5) 3 7) = true := by kernel_rfl
end Go.Proofs.Ytdplgiccpjlelaa
namespace Go.Proofs.Ytdplgiccpjlelaa
open Go.RowKit

theorem ListAt.below {u v : World} {a : Option Addr} {n : Nat} (h : ListAt u a n) (k : Below u.heap.size u v) : ListAt v a n :=
  ⟨h.1, fun t ht => by
    obtain ⟨lb, lo, z, e, hl, hz, z1, z2⟩ := h.2 t ht
    exact ⟨lb, lo, z, e, Nat.lt_of_lt_of_le hl k.size, by rw [k.cell (p := ⟨lb, lo + t, none⟩) hl]; exact hz, z1, z2⟩⟩
theorem IvAt.but {b q : Nat} {u v : World} {x : Iv} (h : IvAt u q x) (k : But b u v) (hq : q ≠ b) : IvAt v q x := (k.block q h.lt hq).trans h
theorem heap_but {b q : Nat} {u v : World} {o : Obj} (h : u.heap[q]? = some o) (k : But b u v) (hq : q ≠ b) : v.heap[q]? = some o := (k.block q (lt_heap h) hq).trans h
/-- A point of three numbers in a block. -/
def PntAt (W : World) (b : Nat) (x y z : Int) : Prop := W.heap[b]? = some (.cells #[.int .i64 x, .int .i64 y, .int .i64 z] 44 (0, 0))
theorem PntAt.lt {W : World} {b : Nat} {x y z : Int} (h : PntAt W b x y z) : b < W.heap.size := lt_heap h
theorem PntAt.at_new {V : World} {b : Nat} {x y z : Int} (hb : V.heap.size = b) : PntAt (V.alloc (.cells #[.int .i64 x, .int .i64 y, .int .i64 z] 44)) b x y z := by subst hb; exact heap_alloc_new _ _
theorem PntAt.below {W V : World} {b : Nat} {x y z : Int} (h : PntAt W b x y z) (hb : Below W.heap.size W V) : PntAt V b x y z := heap_up hb h.lt h
theorem PntAt.alloc {W : World} {b : Nat} {x y z : Int} (h : PntAt W b x y z) (o : Obj) : PntAt (W.alloc o) b x y z := (Go.Deep.blk_alloc_lt _ _ _ h.lt).trans h
theorem PntAt.but {b q : Nat} {u v : World} {x y z : Int} (h : PntAt u q x y z) (k : But b u v) (hq : q ≠ b) : PntAt v q x y z := (k.block q h.lt hq).trans h
theorem PntAt.row {W : World} {b q : Nat} {x y z : Int} {c : Array Value} (h : PntAt W b x y z) (hq : b ≠ q) : PntAt (W.setRow q c) b x y z := heap_far h hq
theorem PntAt.c0 {W : World} {b : Nat} {x y z : Int} (h : PntAt W b x y z) : W.cell? ⟨b, 0, none⟩ = some (.int .i64 x) := by rw [cell_of_row W b 0 _ _ _ h]; rfl
theorem PntAt.c1 {W : World} {b : Nat} {x y z : Int} (h : PntAt W b x y z) : W.cell? ⟨b, 1, none⟩ = some (.int .i64 y) := by rw [cell_of_row W b 1 _ _ _ h]; rfl
theorem PntAt.c2 {W : World} {b : Nat} {x y z : Int} (h : PntAt W b x y z) : W.cell? ⟨b, 2, none⟩ = some (.int .i64 z) := by rw [cell_of_row W b 2 _ _ _ h]; rfl
end Go.Proofs.Ytdplgiccpjlelaa
namespace Go.Proofs.Ytdplgiccpjlelaa
open Go.RowKit

theorem mTurn_as {k : Int} {a : Iv} {m : M3} (w : World) (h : trnM k a = m) :
    Calls Try.prog 36 #[ .int .i64 k, .agg #[.int .i64 a.lo, .int .i64 a.hi] ] w fun e w' => e = .returned (.agg #[.int .i64 ((m).x).x.lo, .int .i64 ((m).x).x.hi, .int .i64 ((m).x).y.lo, .int .i64 ((m).x).y.hi, .int .i64 ((m).x).z.lo, .int .i64 ((m).x).z.hi, .int .i64 ((m).y).x.lo, .int .i64 ((m).y).x.hi, .int .i64 ((m).y).y.lo, .int .i64 ((m).y).y.hi, .int .i64 ((m).y).z.lo, .int .i64 ((m).y).z.hi, .int .i64 ((m).z).x.lo, .int .i64 ((m).z).x.hi, .int .i64 ((m).z).y.lo, .int .i64 ((m).z).y.hi, .int .i64 ((m).z).z.lo, .int .i64 ((m).z).z.hi]) ∧ Below w.heap.size w w' := by subst h; exact mTurn_any k a w
theorem mCompose_as {a b m : M3} (w : World) (h : comM a b = m) :
    Calls Try.prog 63 #[ .agg #[.int .i64 ((a).x).x.lo, .int .i64 ((a).x).x.hi, .int .i64 ((a).x).y.lo, .int .i64 ((a).x).y.hi, .int .i64 ((a).x).z.lo, .int .i64 ((a).x).z.hi, .int .i64 ((a).y).x.lo, .int .i64 ((a).y).x.hi, .int .i64 ((a).y).y.lo, .int .i64 ((a).y).y.hi, .int .i64 ((a).y).z.lo, .int .i64 ((a).y).z.hi, .int .i64 ((a).z).x.lo, .int .i64 ((a).z).x.hi, .int .i64 ((a).z).y.lo, .int .i64 ((a).z).y.hi, .int .i64 ((a).z).z.lo, .int .i64 ((a).z).z.hi], .agg #[.int .i64 ((b).x).x.lo, .int .i64 ((b).x).x.hi, .int .i64 ((b).x).y.lo, .int .i64 ((b).x).y.hi, .int .i64 ((b).x).z.lo, .int .i64 ((b).x).z.hi, .int .i64 ((b).y).x.lo, .int .i64 ((b).y).x.hi, .int .i64 ((b).y).y.lo, .int .i64 ((b).y).y.hi, .int .i64 ((b).y).z.lo, .int .i64 ((b).y).z.hi, .int .i64 ((b).z).x.lo, .int .i64 ((b).z).x.hi, .int .i64 ((b).z).y.lo, .int .i64 ((b).z).y.hi, .int .i64 ((b).z).z.lo, .int .i64 ((b).z).z.hi] ] w fun e w' => e = .returned (.agg #[.int .i64 ((m).x).x.lo, .int .i64 ((m).x).x.hi, .int .i64 ((m).x).y.lo, .int .i64 ((m).x).y.hi, .int .i64 ((m).x).z.lo, .int .i64 ((m).x).z.hi, .int .i64 ((m).y).x.lo, .int .i64 ((m).y).x.hi, .int .i64 ((m).y).y.lo, .int .i64 ((m).y).y.hi, .int .i64 ((m).y).z.lo, .int .i64 ((m).y).z.hi, .int .i64 ((m).z).x.lo, .int .i64 ((m).z).x.hi, .int .i64 ((m).z).y.lo, .int .i64 ((m).z).y.hi, .int .i64 ((m).z).z.lo, .int .i64 ((m).z).z.hi]) ∧ Below w.heap.size w w' := by subst h; exact mCompose_any a b w
theorem mTranspose_as {a m : M3} (w : World) (h : traM a = m) :
    Calls Try.prog 48 #[ .agg #[.int .i64 ((a).x).x.lo, .int .i64 ((a).x).x.hi, .int .i64 ((a).x).y.lo, .int .i64 ((a).x).y.hi, .int .i64 ((a).x).z.lo, .int .i64 ((a).x).z.hi, .int .i64 ((a).y).x.lo, .int .i64 ((a).y).x.hi, .int .i64 ((a).y).y.lo, .int .i64 ((a).y).y.hi, .int .i64 ((a).y).z.lo, .int .i64 ((a).y).z.hi, .int .i64 ((a).z).x.lo, .int .i64 ((a).z).x.hi, .int .i64 ((a).z).y.lo, .int .i64 ((a).z).y.hi, .int .i64 ((a).z).z.lo, .int .i64 ((a).z).z.hi] ] w fun e w' => e = .returned (.agg #[.int .i64 ((m).x).x.lo, .int .i64 ((m).x).x.hi, .int .i64 ((m).x).y.lo, .int .i64 ((m).x).y.hi, .int .i64 ((m).x).z.lo, .int .i64 ((m).x).z.hi, .int .i64 ((m).y).x.lo, .int .i64 ((m).y).x.hi, .int .i64 ((m).y).y.lo, .int .i64 ((m).y).y.hi, .int .i64 ((m).y).z.lo, .int .i64 ((m).y).z.hi, .int .i64 ((m).z).x.lo, .int .i64 ((m).z).x.hi, .int .i64 ((m).z).y.lo, .int .i64 ((m).z).y.hi, .int .i64 ((m).z).z.lo, .int .i64 ((m).z).z.hi]) ∧ Below w.heap.size w w' := by subst h; exact mTranspose_any a w
theorem mWithinMat_as {a b : M3} (w : World) (h : WM a b) :
    Calls Try.prog 46 #[ .agg #[.int .i64 ((a).x).x.lo, .int .i64 ((a).x).x.hi, .int .i64 ((a).x).y.lo, .int .i64 ((a).x).y.hi, .int .i64 ((a).x).z.lo, .int .i64 ((a).x).z.hi, .int .i64 ((a).y).x.lo, .int .i64 ((a).y).x.hi, .int .i64 ((a).y).y.lo, .int .i64 ((a).y).y.hi, .int .i64 ((a).y).z.lo, .int .i64 ((a).y).z.hi, .int .i64 ((a).z).x.lo, .int .i64 ((a).z).x.hi, .int .i64 ((a).z).y.lo, .int .i64 ((a).z).y.hi, .int .i64 ((a).z).z.lo, .int .i64 ((a).z).z.hi], .agg #[.int .i64 ((b).x).x.lo, .int .i64 ((b).x).x.hi, .int .i64 ((b).x).y.lo, .int .i64 ((b).x).y.hi, .int .i64 ((b).x).z.lo, .int .i64 ((b).x).z.hi, .int .i64 ((b).y).x.lo, .int .i64 ((b).y).x.hi, .int .i64 ((b).y).y.lo, .int .i64 ((b).y).y.hi, .int .i64 ((b).y).z.lo, .int .i64 ((b).y).z.hi, .int .i64 ((b).z).x.lo, .int .i64 ((b).z).x.hi, .int .i64 ((b).z).y.lo, .int .i64 ((b).z).y.hi, .int .i64 ((b).z).z.lo, .int .i64 ((b).z).z.hi] ] w fun e w' => e = .returned (.bool true) ∧ Below w.heap.size w w' := by
  have e : withinMB a b = true := by
    unfold withinMB withinVB withinB
    rw [decide_eq_true h.1.1, decide_eq_true h.1.2.1, decide_eq_true h.1.2.2, decide_eq_true h.2.1.1, decide_eq_true h.2.1.2.1, decide_eq_true h.2.1.2.2, decide_eq_true h.2.2.1, decide_eq_true h.2.2.2.1, decide_eq_true h.2.2.2.2]
    rfl
  rw [← e]; exact mWithinMat_any a b w
theorem mWithin_as {a b : V3} (w : World) (h : WV a b) :
    Calls Try.prog 47 #[ .agg #[.int .i64 (a).x.lo, .int .i64 (a).x.hi, .int .i64 (a).y.lo, .int .i64 (a).y.hi, .int .i64 (a).z.lo, .int .i64 (a).z.hi], .agg #[.int .i64 (b).x.lo, .int .i64 (b).x.hi, .int .i64 (b).y.lo, .int .i64 (b).y.hi, .int .i64 (b).z.lo, .int .i64 (b).z.hi] ] w fun e w' => e = .returned (.bool true) ∧ Below w.heap.size w w' := by
  have e : withinVB a b = true := by
    unfold withinVB withinB
    rw [decide_eq_true h.1, decide_eq_true h.2.1, decide_eq_true h.2.2]
    rfl
  rw [← e]; exact mWithin_any a b w
theorem yieldsIf_index {P : Program} {ops : Array Oper} {S : World → Prop} {op : Oper} {a : Act} (hw : Region.wanted op (yielded ops a.tmps) = true) (ty : TypeId) (x i : Operand) (ho : op.op = .index ty x i) (vx vi v : Value)
    (hx : a.eval x = vx) (hi : a.eval i = vi) (h : ∀ w, (Instr.index ty vx vi).run P w = .ok v w) : YieldsIf P ops S op v a :=
  .inl ⟨hw, fun w _ => by
    unfold execOp
    simp only [ho, hx, hi, Sem.run_bind, h, Result.andThen_ok, Sem.run_pure]⟩
theorem ofI_valid (x : Int) : Valid (ofI x) := valid_lim (Int.le_refl _)
theorem pnt_valid (x y z : Int) : VV (pntV x y z) := ⟨ofI_valid x, ofI_valid y, ofI_valid z⟩
theorem axis3 (k : Int) : k % 3 = 0 ∨ k % 3 = 1 ∨ k % 3 = 2 := by omega
/-- A quarter of a turn keeps its axis. -/
theorem keep0 {v : V3} (h : VV v) : (appM (rotM 0 zeroI oneI) v).x = v.x := by
  show addI (addI (mulI oneI v.x) (mulI zeroI v.y)) (mulI zeroI v.z) = v.x
  rw [show mulI oneI v.x = v.x from mul_one_l h.1, mul_zero_l h.2.1, mul_zero_l h.2.2, add_zero_r h.1, add_zero_r h.1]
theorem keep1 {v : V3} (h : VV v) : (appM (rotM 1 zeroI oneI) v).y = v.y := by
  show addI (addI (mulI zeroI v.x) (mulI oneI v.y)) (mulI zeroI v.z) = v.y
  rw [show mulI oneI v.y = v.y from mul_one_l h.2.1, mul_zero_l h.1, mul_zero_l h.2.2, add_zero_l h.2.1, add_zero_r h.2.1]
theorem keep2 {v : V3} (h : VV v) : (appM (rotM 2 zeroI oneI) v).z = v.z := by
  show addI (addI (mulI zeroI v.x) (mulI zeroI v.y)) (mulI oneI v.z) = v.z
  rw [show mulI oneI v.z = v.z from mul_one_l h.2.2, mul_zero_l h.1, mul_zero_l h.2.1, add_zero_l zero_valid, add_zero_l h.2.2]
end Go.Proofs.Ytdplgiccpjlelaa
namespace Go.Proofs.Ytdplgiccpjlelaa
open Go.RowKit

theorem rMeet_as {a b : Iv} (w : World) (h : meets a b) :
    Calls Try.prog 31 #[ .agg #[.int .i64 a.lo, .int .i64 a.hi], .agg #[.int .i64 b.lo, .int .i64 b.hi] ] w fun e w' => e = .returned (.tuple #[.agg #[.int .i64 (metI a b).lo, .int .i64 (metI a b).hi], .bool true]) ∧ Below w.heap.size w w' := by
  rw [← meetB_true h]; exact rMeet_any a b w
end Go.Proofs.Ytdplgiccpjlelaa
namespace Go.Proofs.Ytdplgiccpjlelaa
open Go.RowKit

/-- A source over a list that came in, wherever it stands. -/
theorem src_of2 {w w' : World} {a : Option Addr} {n c b : Nat} (h : ListAt w a n) (hb : Below w.heap.size w w') (hs : SrcAt w' b (.slice a n c) 0) (hle : w.heap.size ≤ b) : Src w.heap.size w' b :=
  ⟨a, n, c, 0, hs, Nat.zero_le _, h.1, hle, fun t ht => by
    obtain ⟨lb, lo, z, e, hl, hz, z1, z2⟩ := h.2 t ht
    exact ⟨lb, lo, z, e, hl, by rw [hb.cell (p := ⟨lb, lo + t, none⟩) hl]; exact hz, z1, z2⟩⟩
def setV (v : V3) (k : Nat) (x : Iv) : V3 := if k = 0 then ⟨x, v.y, v.z⟩ else if k = 1 then ⟨v.x, x, v.z⟩ else ⟨v.x, v.y, x⟩
theorem VecAt.puts {W : World} {b k : Nat} {v : V3} (x : Iv) (h : VecAt W b v) (hk : k < 3) : VecAt ((W.setCell ⟨b, k * 2, none⟩ (.int .i64 x.lo)).setCell ⟨b, k * 2 + 1, none⟩ (.int .i64 x.hi)) b (setV v k x) := by
  have h1 := heap_setCell_same W b (k * 2) _ _ (.int .i64 x.lo) h
  have h2 := heap_setCell_same _ b (k * 2 + 1) _ _ (.int .i64 x.hi) h1
  match k, hk, h2 with
  | 0, _, h2 | 1, _, h2 | 2, _, h2 => exact h2
theorem setV_same {v : V3} {k : Nat} {x : Iv} (hk : k < 3) : (setV v k x).at k = x := by
  match k, hk with
  | 0, _ | 1, _ | 2, _ => rfl
theorem setV_other {v : V3} {j k : Nat} {x : Iv} (hj : j < 3) (hk : k < 3) (h : j ≠ k) : (setV v k x).at j = v.at j := by
  match j, hj, k, hk, h with
  | 0, _, 0, _, h => exact absurd rfl h
  | 1, _, 1, _, h => exact absurd rfl h
  | 2, _, 2, _, h => exact absurd rfl h
  | 0, _, 1, _, _ | 0, _, 2, _, _ | 1, _, 0, _, _ | 1, _, 2, _, _ | 2, _, 0, _, _ | 2, _, 1, _, _ => rfl
/-- The first k entries lie within those of v. -/
def Parts (u v : V3) (k : Nat) : Prop := ∀ j, j < k → Within (u.at j) (v.at j)
theorem parts_set {u v : V3} {k : Nat} {x : Iv} (h : Parts u v k) (hk : k < 3) (hx : Within x (v.at k)) : Parts (setV u k x) v (k + 1) := by
  intro j hj
  by_cases e : j = k
  · subst e; rw [setV_same hk]; exact hx
  · rw [setV_other (by omega) hk e]; exact h j (by omega)
theorem parts_all {u v : V3} (h : Parts u v 3) : WV u v := ⟨h 0 (by decide), h 1 (by decide), h 2 (by decide)⟩
theorem okV_at {v : V3} (h : OkV v) {k : Nat} (hk : k < 3) : Valid (v.at k) := by
  match k, hk with
  | 0, _ => exact h.1.valid
  | 1, _ => exact h.2.1.valid
  | 2, _ => exact h.2.2.valid
/-- Nothing that W held has changed. -/
def Frm (W w : World) : Prop := Below W.heap.size W w
theorem Frm.next {W w1 w2 : World} (hb2 : Below w1.heap.size w1 w2) (h : Frm W w1) : Frm W w2 := below_next hb2 h
theorem Frm.alloc {W V : World} (h : Frm W V) (o : Obj) : Frm W (V.alloc o) := below_alloc h o
theorem Frm.start (W : World) : Frm W W.drew := (Below.refl _ _).drew
theorem Frm.self (W : World) : Frm W W := Below.refl _ _
theorem Frm.drew {W V : World} (h : Frm W V) : Frm W V.drew := Below.drew h
theorem Frm.row {W V : World} {b : Nat} (h : Frm W V) (hb : W.heap.size ≤ b) (c : Array Value) : Frm W (V.setRow b c) := setRow_below h hb c
theorem new_mat {W V : World} (_h : Frm W (V.alloc (.cells #[.int .i64 0, .int .i64 0, .int .i64 0, .int .i64 0, .int .i64 0, .int .i64 0, .int .i64 0, .int .i64 0, .int .i64 0, .int .i64 0, .int .i64 0, .int .i64 0, .int .i64 0, .int .i64 0, .int .i64 0, .int .i64 0, .int .i64 0, .int .i64 0] 26))) (h0 : Frm W V) : ∃ n, V.heap.size = n ∧ MatAt (V.alloc (.cells #[.int .i64 0, .int .i64 0, .int .i64 0, .int .i64 0, .int .i64 0, .int .i64 0, .int .i64 0, .int .i64 0, .int .i64 0, .int .i64 0, .int .i64 0, .int .i64 0, .int .i64 0, .int .i64 0, .int .i64 0, .int .i64 0, .int .i64 0, .int .i64 0] 26)) n zeroM ∧ W.heap.size ≤ n := ⟨_, rfl, MatAt.at_new (v := zeroM) rfl, Below.size h0⟩
theorem new_mat_d {W V : World} (_h : Frm W (V.alloc (.cells #[.int .i64 0, .int .i64 0, .int .i64 0, .int .i64 0, .int .i64 0, .int .i64 0, .int .i64 0, .int .i64 0, .int .i64 0, .int .i64 0, .int .i64 0, .int .i64 0, .int .i64 0, .int .i64 0, .int .i64 0, .int .i64 0, .int .i64 0, .int .i64 0] 26)).drew) (h0 : Frm W V) : ∃ n, V.heap.size = n ∧ MatAt (V.alloc (.cells #[.int .i64 0, .int .i64 0, .int .i64 0, .int .i64 0, .int .i64 0, .int .i64 0, .int .i64 0, .int .i64 0, .int .i64 0, .int .i64 0, .int .i64 0, .int .i64 0, .int .i64 0, .int .i64 0, .int .i64 0, .int .i64 0, .int .i64 0, .int .i64 0] 26)).drew n zeroM ∧ W.heap.size ≤ n := ⟨_, rfl, (MatAt.at_new (V := V) (v := zeroM) rfl).drew, Below.size h0⟩
theorem up_mat {W V : World} {o : Obj} {b : Nat} {x : M3} (_h : Frm W (V.alloc o)) (k : MatAt V b x) : MatAt (V.alloc o) b x := k.alloc _
theorem up_mat_d {W V : World} {o : Obj} {b : Nat} {x : M3} (_h : Frm W (V.alloc o).drew) (k : MatAt V.drew b x) : MatAt (V.alloc o).drew b x := (MatAt.alloc (W := V) k o).drew
theorem new_mat2 {U V : World} {q : Nat} (_h : (V.alloc (.cells #[.int .i64 0, .int .i64 0, .int .i64 0, .int .i64 0, .int .i64 0, .int .i64 0, .int .i64 0, .int .i64 0, .int .i64 0, .int .i64 0, .int .i64 0, .int .i64 0, .int .i64 0, .int .i64 0, .int .i64 0, .int .i64 0, .int .i64 0, .int .i64 0] 26)).heap[q]? = U.heap[q]?) : ∃ n, V.heap.size = n ∧ MatAt (V.alloc (.cells #[.int .i64 0, .int .i64 0, .int .i64 0, .int .i64 0, .int .i64 0, .int .i64 0, .int .i64 0, .int .i64 0, .int .i64 0, .int .i64 0, .int .i64 0, .int .i64 0, .int .i64 0, .int .i64 0, .int .i64 0, .int .i64 0, .int .i64 0, .int .i64 0] 26)) n zeroM := ⟨_, rfl, MatAt.at_new (v := zeroM) rfl⟩
theorem new_mat2_d {U V : World} {q : Nat} (_h : (V.alloc (.cells #[.int .i64 0, .int .i64 0, .int .i64 0, .int .i64 0, .int .i64 0, .int .i64 0, .int .i64 0, .int .i64 0, .int .i64 0, .int .i64 0, .int .i64 0, .int .i64 0, .int .i64 0, .int .i64 0, .int .i64 0, .int .i64 0, .int .i64 0, .int .i64 0] 26)).drew.heap[q]? = U.heap[q]?) : ∃ n, V.heap.size = n ∧ MatAt (V.alloc (.cells #[.int .i64 0, .int .i64 0, .int .i64 0, .int .i64 0, .int .i64 0, .int .i64 0, .int .i64 0, .int .i64 0, .int .i64 0, .int .i64 0, .int .i64 0, .int .i64 0, .int .i64 0, .int .i64 0, .int .i64 0, .int .i64 0, .int .i64 0, .int .i64 0] 26)).drew n zeroM := ⟨_, rfl, (MatAt.at_new (V := V) (v := zeroM) rfl).drew⟩
theorem new_vec2 {U V : World} {q : Nat} (_h : (V.alloc (.cells #[.int .i64 0, .int .i64 0, .int .i64 0, .int .i64 0, .int .i64 0, .int .i64 0] 27)).heap[q]? = U.heap[q]?) : ∃ n, V.heap.size = n ∧ VecAt (V.alloc (.cells #[.int .i64 0, .int .i64 0, .int .i64 0, .int .i64 0, .int .i64 0, .int .i64 0] 27)) n zeroV := ⟨_, rfl, VecAt.at_new (v := zeroV) rfl⟩
theorem new_vec2_d {U V : World} {q : Nat} (_h : (V.alloc (.cells #[.int .i64 0, .int .i64 0, .int .i64 0, .int .i64 0, .int .i64 0, .int .i64 0] 27)).drew.heap[q]? = U.heap[q]?) : ∃ n, V.heap.size = n ∧ VecAt (V.alloc (.cells #[.int .i64 0, .int .i64 0, .int .i64 0, .int .i64 0, .int .i64 0, .int .i64 0] 27)).drew n zeroV := ⟨_, rfl, (VecAt.at_new (V := V) (v := zeroV) rfl).drew⟩
theorem up_mat2 {U V : World} {q b : Nat} {o : Obj} {x : M3} (_h : (V.alloc o).heap[q]? = U.heap[q]?) (k : MatAt V b x) : MatAt (V.alloc o) b x := k.alloc _
theorem up_mat2_d {U V : World} {q b : Nat} {o : Obj} {x : M3} (_h : (V.alloc o).drew.heap[q]? = U.heap[q]?) (k : MatAt V.drew b x) : MatAt (V.alloc o).drew b x := (MatAt.alloc (W := V) k o).drew
theorem up_vec2 {U V : World} {q b : Nat} {o : Obj} {x : V3} (_h : (V.alloc o).heap[q]? = U.heap[q]?) (k : VecAt V b x) : VecAt (V.alloc o) b x := k.alloc _
theorem up_vec2_d {U V : World} {q b : Nat} {o : Obj} {x : V3} (_h : (V.alloc o).drew.heap[q]? = U.heap[q]?) (k : VecAt V.drew b x) : VecAt (V.alloc o).drew b x := (VecAt.alloc (W := V) k o).drew
theorem up_src2 {U V : World} {q B b : Nat} {o : Obj} (_h : (V.alloc o).heap[q]? = U.heap[q]?) (k : Src B V b) : Src B (V.alloc o) b := k.below (below_alloc (Below.refl _ _) o)
theorem up_src2_d {U V : World} {q B b : Nat} {o : Obj} (_h : (V.alloc o).drew.heap[q]? = U.heap[q]?) (k : Src B V.drew b) : Src B (V.alloc o).drew b := Src.below (u := V) k (below_alloc (Below.refl _ _) o).drew
theorem But.cast {b : Nat} {u v v' : World} (h : But b u v) (h1 : v'.os = v.os) (h2 : v'.tape = v.tape) (h3 : v'.output = v.output) (h4 : v'.heap = v.heap) : But b u v' :=
  ⟨by rw [h1]; exact h.os, by rw [h2]; exact h.tape, by rw [h3]; exact h.output, by rw [h4]; exact h.size, fun k hk hb => by rw [h4]; exact h.block k hk hb⟩
theorem up_but2 {U V u : World} {q b : Nat} {o : Obj} (_h : (V.alloc o).heap[q]? = U.heap[q]?) (k : But b u V) : But b u (V.alloc o) := k.alloc o
theorem up_but2_d {U V u : World} {q b : Nat} {o : Obj} (_h : (V.alloc o).drew.heap[q]? = U.heap[q]?) (k : But b u V.drew) : But b u (V.alloc o).drew := (But.alloc (v := V) ⟨k.os, k.tape, k.output, k.size, k.block⟩ o).drew
end Go.Proofs.Ytdplgiccpjlelaa
