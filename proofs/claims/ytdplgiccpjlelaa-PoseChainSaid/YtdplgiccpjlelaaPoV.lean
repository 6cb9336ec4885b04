/- Proved: small facts on blocks that hold a vector, behind a new block or a store. Conditions: as each theorem states. -/
import Derived.Test.YtdplgiccpjlelaaPoK
namespace Go.Proofs.Ytdplgiccpjlelaa
open Go.RowKit

theorem new_vecF {W V : World} (_h : Frm W (V.alloc (.cells #[.int .i64 0, .int .i64 0, .int .i64 0, .int .i64 0, .int .i64 0, .int .i64 0] 27))) (h0 : Frm W V) : ∃ n, V.heap.size = n ∧ VecAt (V.alloc (.cells #[.int .i64 0, .int .i64 0, .int .i64 0, .int .i64 0, .int .i64 0, .int .i64 0] 27)) n zeroV ∧ W.heap.size ≤ n := ⟨_, rfl, VecAt.at_new (v := zeroV) rfl, Below.size h0⟩
theorem new_vecF_d {W V : World} (_h : Frm W (V.alloc (.cells #[.int .i64 0, .int .i64 0, .int .i64 0, .int .i64 0, .int .i64 0, .int .i64 0] 27)).drew) (h0 : Frm W V) : ∃ n, V.heap.size = n ∧ VecAt (V.alloc (.cells #[.int .i64 0, .int .i64 0, .int .i64 0, .int .i64 0, .int .i64 0, .int .i64 0] 27)).drew n zeroV ∧ W.heap.size ≤ n := ⟨_, rfl, (VecAt.at_new (V := V) (v := zeroV) rfl).drew, Below.size h0⟩
theorem up_vecF {W V : World} {o : Obj} {b : Nat} {x : V3} (_h : Frm W (V.alloc o)) (k : VecAt V b x) : VecAt (V.alloc o) b x := k.alloc _
theorem up_vecF_d {W V : World} {o : Obj} {b : Nat} {x : V3} (_h : Frm W (V.alloc o).drew) (k : VecAt V.drew b x) : VecAt (V.alloc o).drew b x := (VecAt.alloc (W := V) k o).drew
end Go.Proofs.Ytdplgiccpjlelaa
