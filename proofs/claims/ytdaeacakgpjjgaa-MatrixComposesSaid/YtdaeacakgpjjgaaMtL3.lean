/- Proved: the statement MatrixComposes returns true. Conditions: the arguments are of their types, the list lies in memory. -/
import Derived.Test.YtdaeacakgpjjgaaMtH
namespace Go.Proofs.Ytdaeacakgpjjgaa
open Go.RowKit

/-- The load of a whole block whose guard says yes. -/
theorem wpList_load_row_if {P : Program} {ops : Array Oper} {rest : List Oper} {o : Oper} {a : Act} {w : World} {Q : Exit → Act → World → Prop} (hw : Region.wanted o (yielded ops a.tmps) = true) (ty : TypeId) (x : Operand) (ho : o.op = .load ty x)
    (g : Nat) (hx : a.eval x = .pointer (some ⟨g, 0, none⟩)) (t : TypeId) (cs : Array Value) (fr : Nat × Nat) (d : TypeDesc) (hg : w.heap[g]? = some (.cells cs t fr))
    (hu : P.underlying ty = some d) (hd : (match d with | .struct _ | .array _ _ => true | _ => false) = true) (hi : (P.info? ty).map (·.size) = some cs.size)
    (h : wpList P ops Q rest (a.put o.dst (.agg cs)) w) : wpList P ops Q (o :: rest) a w :=
  wpList_step fun K hK => by rw [if_pos hw]; exact wp_load_row ty x ho g hx t cs fr d hg hu hd hi (hK _ _ h)
set_option linter.unusedSimpArgs false in
set_option linter.unusedVariables false in
set_option maxRecDepth 100000 in
set_option maxHeartbeats 12800000 in
theorem MatrixComposes_any (a c : M3) (ao : Option Addr) (n cap : Nat) (w : World) (l : ListAt w ao n) :
    Calls Try.prog 5 #[ .agg #[.int .i64 ((a).x).x.lo, .int .i64 ((a).x).x.hi, .int .i64 ((a).x).y.lo, .int .i64 ((a).x).y.hi, .int .i64 ((a).x).z.lo, .int .i64 ((a).x).z.hi, .int .i64 ((a).y).x.lo, .int .i64 ((a).y).x.hi, .int .i64 ((a).y).y.lo, .int .i64 ((a).y).y.hi, .int .i64 ((a).y).z.lo, .int .i64 ((a).y).z.hi, .int .i64 ((a).z).x.lo, .int .i64 ((a).z).x.hi, .int .i64 ((a).z).y.lo, .int .i64 ((a).z).y.hi, .int .i64 ((a).z).z.lo, .int .i64 ((a).z).z.hi], .agg #[.int .i64 ((c).x).x.lo, .int .i64 ((c).x).x.hi, .int .i64 ((c).x).y.lo, .int .i64 ((c).x).y.hi, .int .i64 ((c).x).z.lo, .int .i64 ((c).x).z.hi, .int .i64 ((c).y).x.lo, .int .i64 ((c).y).x.hi, .int .i64 ((c).y).y.lo, .int .i64 ((c).y).y.hi, .int .i64 ((c).y).z.lo, .int .i64 ((c).y).z.hi, .int .i64 ((c).z).x.lo, .int .i64 ((c).z).x.hi, .int .i64 ((c).z).y.lo, .int .i64 ((c).z).y.hi, .int .i64 ((c).z).z.lo, .int .i64 ((c).z).z.hi], .slice ao n cap ] w fun e w' => e = .returned (.bool true) ∧ Below w.heap.size w w' := by
  have eqM := eql_mat
  have kb := Lib.hid (show Below w.heap.size w ((w.alloc (.cells #[.int .i64 ((a).x).x.lo, .int .i64 ((a).x).x.hi, .int .i64 ((a).x).y.lo, .int .i64 ((a).x).y.hi, .int .i64 ((a).x).z.lo, .int .i64 ((a).x).z.hi, .int .i64 ((a).y).x.lo, .int .i64 ((a).y).x.hi, .int .i64 ((a).y).y.lo, .int .i64 ((a).y).y.hi, .int .i64 ((a).y).z.lo, .int .i64 ((a).y).z.hi, .int .i64 ((a).z).x.lo, .int .i64 ((a).z).x.hi, .int .i64 ((a).z).y.lo, .int .i64 ((a).z).y.hi, .int .i64 ((a).z).z.lo, .int .i64 ((a).z).z.hi] 28)).alloc (.cells #[.int .i64 ((c).x).x.lo, .int .i64 ((c).x).x.hi, .int .i64 ((c).x).y.lo, .int .i64 ((c).x).y.hi, .int .i64 ((c).x).z.lo, .int .i64 ((c).x).z.hi, .int .i64 ((c).y).x.lo, .int .i64 ((c).y).x.hi, .int .i64 ((c).y).y.lo, .int .i64 ((c).y).y.hi, .int .i64 ((c).y).z.lo, .int .i64 ((c).y).z.hi, .int .i64 ((c).z).x.lo, .int .i64 ((c).z).x.hi, .int .i64 ((c).z).y.lo, .int .i64 ((c).z).y.hi, .int .i64 ((c).z).z.lo, .int .i64 ((c).z).z.hi] 28)) from below_alloc (below_alloc (Below.refl _ _) _) _)
  have H0 := Lib.hid (show MatAt ((w.alloc (.cells #[.int .i64 ((a).x).x.lo, .int .i64 ((a).x).x.hi, .int .i64 ((a).x).y.lo, .int .i64 ((a).x).y.hi, .int .i64 ((a).x).z.lo, .int .i64 ((a).x).z.hi, .int .i64 ((a).y).x.lo, .int .i64 ((a).y).x.hi, .int .i64 ((a).y).y.lo, .int .i64 ((a).y).y.hi, .int .i64 ((a).y).z.lo, .int .i64 ((a).y).z.hi, .int .i64 ((a).z).x.lo, .int .i64 ((a).z).x.hi, .int .i64 ((a).z).y.lo, .int .i64 ((a).z).y.hi, .int .i64 ((a).z).z.lo, .int .i64 ((a).z).z.hi] 28)).alloc (.cells #[.int .i64 ((c).x).x.lo, .int .i64 ((c).x).x.hi, .int .i64 ((c).x).y.lo, .int .i64 ((c).x).y.hi, .int .i64 ((c).x).z.lo, .int .i64 ((c).x).z.hi, .int .i64 ((c).y).x.lo, .int .i64 ((c).y).x.hi, .int .i64 ((c).y).y.lo, .int .i64 ((c).y).y.hi, .int .i64 ((c).y).z.lo, .int .i64 ((c).y).z.hi, .int .i64 ((c).z).x.lo, .int .i64 ((c).z).x.hi, .int .i64 ((c).z).y.lo, .int .i64 ((c).z).y.hi, .int .i64 ((c).z).z.lo, .int .i64 ((c).z).z.hi] 28)) w.heap.size a from (MatAt.new w a).alloc _)
  have H1 := Lib.hid (show MatAt ((w.alloc (.cells #[.int .i64 ((a).x).x.lo, .int .i64 ((a).x).x.hi, .int .i64 ((a).x).y.lo, .int .i64 ((a).x).y.hi, .int .i64 ((a).x).z.lo, .int .i64 ((a).x).z.hi, .int .i64 ((a).y).x.lo, .int .i64 ((a).y).x.hi, .int .i64 ((a).y).y.lo, .int .i64 ((a).y).y.hi, .int .i64 ((a).y).z.lo, .int .i64 ((a).y).z.hi, .int .i64 ((a).z).x.lo, .int .i64 ((a).z).x.hi, .int .i64 ((a).z).y.lo, .int .i64 ((a).z).y.hi, .int .i64 ((a).z).z.lo, .int .i64 ((a).z).z.hi] 28)).alloc (.cells #[.int .i64 ((c).x).x.lo, .int .i64 ((c).x).x.hi, .int .i64 ((c).x).y.lo, .int .i64 ((c).x).y.hi, .int .i64 ((c).x).z.lo, .int .i64 ((c).x).z.hi, .int .i64 ((c).y).x.lo, .int .i64 ((c).y).x.hi, .int .i64 ((c).y).y.lo, .int .i64 ((c).y).y.hi, .int .i64 ((c).y).z.lo, .int .i64 ((c).y).z.hi, .int .i64 ((c).z).x.lo, .int .i64 ((c).z).x.hi, .int .i64 ((c).z).y.lo, .int .i64 ((c).z).y.hi, .int .i64 ((c).z).z.lo, .int .i64 ((c).z).z.hi] 28)) (w.heap.size + 1) c from MatAt.at_new (v := c) (by simp))
  have hl := Lib.hid (l.below kb.out)
  go_enter Try.func5, Try.ntmps5
  go_wp2_with fail
  obtain ⟨U, hU⟩ : ∃ U : World, U = ((w.alloc (.cells #[.int .i64 ((a).x).x.lo, .int .i64 ((a).x).x.hi, .int .i64 ((a).x).y.lo, .int .i64 ((a).x).y.hi, .int .i64 ((a).x).z.lo, .int .i64 ((a).x).z.hi, .int .i64 ((a).y).x.lo, .int .i64 ((a).y).x.hi, .int .i64 ((a).y).y.lo, .int .i64 ((a).y).y.hi, .int .i64 ((a).y).z.lo, .int .i64 ((a).y).z.hi, .int .i64 ((a).z).x.lo, .int .i64 ((a).z).x.hi, .int .i64 ((a).z).y.lo, .int .i64 ((a).z).y.hi, .int .i64 ((a).z).z.lo, .int .i64 ((a).z).z.hi] 28)).alloc (.cells #[.int .i64 ((c).x).x.lo, .int .i64 ((c).x).x.hi, .int .i64 ((c).x).y.lo, .int .i64 ((c).x).y.hi, .int .i64 ((c).x).z.lo, .int .i64 ((c).x).z.hi, .int .i64 ((c).y).x.lo, .int .i64 ((c).y).x.hi, .int .i64 ((c).y).y.lo, .int .i64 ((c).y).y.hi, .int .i64 ((c).y).z.lo, .int .i64 ((c).y).z.hi, .int .i64 ((c).z).x.lo, .int .i64 ((c).z).x.hi, .int .i64 ((c).z).y.lo, .int .i64 ((c).z).y.hi, .int .i64 ((c).z).z.lo, .int .i64 ((c).z).z.hi] 28)) := ⟨_, rfl⟩
  rw [← hU] at H0 H1 kb hl ⊢
  clear hU l
  refine (From_any ao n cap _).mono ?_
  rintro e w1 ⟨rfl, hs0, hb1⟩
  have hs := src_of hl.out hb1 hs0
  obtain ⟨b, hbz⟩ : ∃ b, b = U.heap.size := ⟨_, rfl⟩
  have q3 := H1.out.lt
  have q := hb1.size
  have I0 := Lib.hid (H0.out.below hb1)
  have I1 := Lib.hid (H1.out.below hb1)
  have kb1 := Lib.hid (below_next hb1 kb.out)
  rw [← hbz] at hs ⊢
  have qb : w.heap.size + 1 < b := by omega
  have qs := hs.lt
  clear hs0 hb1 H0 H1 kb hl hbz q q3
  go_wp2_with fail
  refine (turn_any b b _ hs).mono ?_
  rintro e w2 ⟨k1, a1, hk, ha, rfl, hs2, hb2⟩
  clear hk ha
  generalize trnM k1 a1 = X1
  have T2 := Lib.hid hs2
  have N2 := Lib.hid hb2
  clear hs2 hb2 hs
  go_wp2_with fail
  refine (turn_any b b _ T2.out).mono ?_
  rintro e w3 ⟨k2, a2, hk, ha, rfl, hs3, hb3⟩
  generalize trnM k2 a2 = X2
  have kbut := N2.out.trans hb3
  have z := kbut.size
  have Z0 : MatAt ((w3.alloc (.cells #[.int .i64 0, .int .i64 0, .int .i64 0, .int .i64 0, .int .i64 0, .int .i64 0, .int .i64 0, .int .i64 0, .int .i64 0, .int .i64 0, .int .i64 0, .int .i64 0, .int .i64 0, .int .i64 0, .int .i64 0, .int .i64 0, .int .i64 0, .int .i64 0] 28)).alloc (.cells #[.int .i64 0, .int .i64 0, .int .i64 0, .int .i64 0, .int .i64 0, .int .i64 0, .int .i64 0, .int .i64 0, .int .i64 0, .int .i64 0, .int .i64 0, .int .i64 0, .int .i64 0, .int .i64 0, .int .i64 0, .int .i64 0, .int .i64 0, .int .i64 0] 28)) w3.heap.size zeroM := (MatAt.at_new (v := zeroM) rfl).alloc _
  have Z1 : MatAt ((w3.alloc (.cells #[.int .i64 0, .int .i64 0, .int .i64 0, .int .i64 0, .int .i64 0, .int .i64 0, .int .i64 0, .int .i64 0, .int .i64 0, .int .i64 0, .int .i64 0, .int .i64 0, .int .i64 0, .int .i64 0, .int .i64 0, .int .i64 0, .int .i64 0, .int .i64 0] 28)).alloc (.cells #[.int .i64 0, .int .i64 0, .int .i64 0, .int .i64 0, .int .i64 0, .int .i64 0, .int .i64 0, .int .i64 0, .int .i64 0, .int .i64 0, .int .i64 0, .int .i64 0, .int .i64 0, .int .i64 0, .int .i64 0, .int .i64 0, .int .i64 0, .int .i64 0] 28)) (w3.heap.size + 1) zeroM := MatAt.at_new (v := zeroM) (by simp)
  have Z1' : MatAt (((w3.alloc (.cells #[.int .i64 0, .int .i64 0, .int .i64 0, .int .i64 0, .int .i64 0, .int .i64 0, .int .i64 0, .int .i64 0, .int .i64 0, .int .i64 0, .int .i64 0, .int .i64 0, .int .i64 0, .int .i64 0, .int .i64 0, .int .i64 0, .int .i64 0, .int .i64 0] 28)).alloc (.cells #[.int .i64 0, .int .i64 0, .int .i64 0, .int .i64 0, .int .i64 0, .int .i64 0, .int .i64 0, .int .i64 0, .int .i64 0, .int .i64 0, .int .i64 0, .int .i64 0, .int .i64 0, .int .i64 0, .int .i64 0, .int .i64 0, .int .i64 0, .int .i64 0] 28)).setRow w3.heap.size (matC X1)) (w3.heap.size + 1) zeroM := Z1.row (by omega)
  have y0 : w.heap.size < w3.heap.size := by omega
  have y1 : w.heap.size + 1 < w3.heap.size := by omega
  have J0 := Lib.hid (show MatAt ((((w3.alloc (.cells #[.int .i64 0, .int .i64 0, .int .i64 0, .int .i64 0, .int .i64 0, .int .i64 0, .int .i64 0, .int .i64 0, .int .i64 0, .int .i64 0, .int .i64 0, .int .i64 0, .int .i64 0, .int .i64 0, .int .i64 0, .int .i64 0, .int .i64 0, .int .i64 0] 28)).alloc (.cells #[.int .i64 0, .int .i64 0, .int .i64 0, .int .i64 0, .int .i64 0, .int .i64 0, .int .i64 0, .int .i64 0, .int .i64 0, .int .i64 0, .int .i64 0, .int .i64 0, .int .i64 0, .int .i64 0, .int .i64 0, .int .i64 0, .int .i64 0, .int .i64 0] 28)).setRow w3.heap.size (matC X1)).setRow (w3.heap.size + 1) (matC X2)) w.heap.size a from ((((I0.out.but kbut (by omega)).alloc _).alloc _).row (by omega)).row (by omega))
  have J1 := Lib.hid (show MatAt ((((w3.alloc (.cells #[.int .i64 0, .int .i64 0, .int .i64 0, .int .i64 0, .int .i64 0, .int .i64 0, .int .i64 0, .int .i64 0, .int .i64 0, .int .i64 0, .int .i64 0, .int .i64 0, .int .i64 0, .int .i64 0, .int .i64 0, .int .i64 0, .int .i64 0, .int .i64 0] 28)).alloc (.cells #[.int .i64 0, .int .i64 0, .int .i64 0, .int .i64 0, .int .i64 0, .int .i64 0, .int .i64 0, .int .i64 0, .int .i64 0, .int .i64 0, .int .i64 0, .int .i64 0, .int .i64 0, .int .i64 0, .int .i64 0, .int .i64 0, .int .i64 0, .int .i64 0] 28)).setRow w3.heap.size (matC X1)).setRow (w3.heap.size + 1) (matC X2)) (w.heap.size + 1) c from ((((I1.out.but kbut (by omega)).alloc _).alloc _).row (by omega)).row (by omega))
  have J2 := Lib.hid (show MatAt ((((w3.alloc (.cells #[.int .i64 0, .int .i64 0, .int .i64 0, .int .i64 0, .int .i64 0, .int .i64 0, .int .i64 0, .int .i64 0, .int .i64 0, .int .i64 0, .int .i64 0, .int .i64 0, .int .i64 0, .int .i64 0, .int .i64 0, .int .i64 0, .int .i64 0, .int .i64 0] 28)).alloc (.cells #[.int .i64 0, .int .i64 0, .int .i64 0, .int .i64 0, .int .i64 0, .int .i64 0, .int .i64 0, .int .i64 0, .int .i64 0, .int .i64 0, .int .i64 0, .int .i64 0, .int .i64 0, .int .i64 0, .int .i64 0, .int .i64 0, .int .i64 0, .int .i64 0] 28)).setRow w3.heap.size (matC X1)).setRow (w3.heap.size + 1) (matC X2)) w3.heap.size X1 from (Z0.put X1).row (by omega))
  have J3 := Lib.hid (show MatAt ((((w3.alloc (.cells #[.int .i64 0, .int .i64 0, .int .i64 0, .int .i64 0, .int .i64 0, .int .i64 0, .int .i64 0, .int .i64 0, .int .i64 0, .int .i64 0, .int .i64 0, .int .i64 0, .int .i64 0, .int .i64 0, .int .i64 0, .int .i64 0, .int .i64 0, .int .i64 0] 28)).alloc (.cells #[.int .i64 0, .int .i64 0, .int .i64 0, .int .i64 0, .int .i64 0, .int .i64 0, .int .i64 0, .int .i64 0, .int .i64 0, .int .i64 0, .int .i64 0, .int .i64 0, .int .i64 0, .int .i64 0, .int .i64 0, .int .i64 0, .int .i64 0, .int .i64 0] 28)).setRow w3.heap.size (matC X1)).setRow (w3.heap.size + 1) (matC X2)) (w3.heap.size + 1) X2 from Z1'.put X2)
  have kb2 := Lib.hid (show Below w.heap.size w ((((w3.alloc (.cells #[.int .i64 0, .int .i64 0, .int .i64 0, .int .i64 0, .int .i64 0, .int .i64 0, .int .i64 0, .int .i64 0, .int .i64 0, .int .i64 0, .int .i64 0, .int .i64 0, .int .i64 0, .int .i64 0, .int .i64 0, .int .i64 0, .int .i64 0, .int .i64 0] 28)).alloc (.cells #[.int .i64 0, .int .i64 0, .int .i64 0, .int .i64 0, .int .i64 0, .int .i64 0, .int .i64 0, .int .i64 0, .int .i64 0, .int .i64 0, .int .i64 0, .int .i64 0, .int .i64 0, .int .i64 0, .int .i64 0, .int .i64 0, .int .i64 0, .int .i64 0] 28)).setRow w3.heap.size (matC X1)).setRow (w3.heap.size + 1) (matC X2)) from setRow_below (setRow_below (below_alloc (below_alloc (kbut.below kb1.out (by omega) (by omega)) _) _) (by omega) _) (by omega) _)
  clear I0 I1 kb1 N2 hb3 kbut T2 hs3 hk ha Z1 z
  go_wp2_with (first | (refine wpList_store_row rfl 28 _ _ rfl w3.heap.size (matC X1) rfl rfl 28 (matC zeroM) Z0 info_mat rfl (mat_one _) ?_) | (refine wpList_store_row rfl 28 _ _ rfl (w3.heap.size + 1) (matC X2) rfl rfl 28 (matC zeroM) Z1' info_mat rfl (mat_one _) ?_))
  obtain ⟨V, hV⟩ : ∃ V : World, V = ((((w3.alloc (.cells #[.int .i64 0, .int .i64 0, .int .i64 0, .int .i64 0, .int .i64 0, .int .i64 0, .int .i64 0, .int .i64 0, .int .i64 0, .int .i64 0, .int .i64 0, .int .i64 0, .int .i64 0, .int .i64 0, .int .i64 0, .int .i64 0, .int .i64 0, .int .i64 0] 28)).alloc (.cells #[.int .i64 0, .int .i64 0, .int .i64 0, .int .i64 0, .int .i64 0, .int .i64 0, .int .i64 0, .int .i64 0, .int .i64 0, .int .i64 0, .int .i64 0, .int .i64 0, .int .i64 0, .int .i64 0, .int .i64 0, .int .i64 0, .int .i64 0, .int .i64 0] 28)).setRow w3.heap.size (matC X1)).setRow (w3.heap.size + 1) (matC X2)) := ⟨_, rfl⟩
  rw [← hV] at J0 J1 J2 J3 kb2 ⊢
  clear hV Z0 Z1'
  refine (mAwake_any _).mono ?_
  rintro e w4 ⟨rfl, hb4⟩
  go_wp2_with fail
  refine (mIdentity_any _).mono ?_
  rintro e w5 ⟨rfl, hb5⟩
  have h5 := below_next hb5 hb4
  clear hb4 hb5
  go_wp2_with fail
  refine (rUnit_any _).mono ?_
  rintro e w6 ⟨rfl, hb6⟩
  have h6 := below_next hb6 h5
  have f0 := J0.out.below h6
  have f1 := J1.out.below h6
  clear hb6 h5
  go_wp2_with (first | (refine wpList_load_row_if (by rfl) 28 _ rfl (w.heap.size) rfl 28 _ (0, 0) _ f0 under_mat rfl info_mat ?_) | (refine wpList_load_row_if (by rfl) 28 _ rfl (w.heap.size + 1) rfl 28 _ (0, 0) _ f1 under_mat rfl info_mat ?_))
  refine (composes_any a c _).mono ?_
  rintro e w7 ⟨rfl, hb7⟩
  have h7 := below_next hb7 h6
  clear f0 f1
  have f0 := J2.out.below h7
  have f1 := J3.out.below h7
  clear hb7 h6
  go_wp2_with (first | (refine wpList_load_row_if (by rfl) 28 _ rfl (w3.heap.size) rfl 28 _ (0, 0) _ f0 under_mat rfl info_mat ?_) | (refine wpList_load_row_if (by rfl) 28 _ rfl (w3.heap.size + 1) rfl 28 _ (0, 0) _ f1 under_mat rfl info_mat ?_))
  refine (composes_any X1 X2 _).mono ?_
  rintro e w8 ⟨rfl, hb8⟩
  have h8 := below_next hb8 h7
  clear f0 f1
  have f0 := J2.out.below h8
  have f1 := J0.out.below h8
  clear hb8 h7
  go_wp2_with (first | (refine wpList_load_row_if (by rfl) 28 _ rfl (w3.heap.size) rfl 28 _ (0, 0) _ f0 under_mat rfl info_mat ?_) | (refine wpList_load_row_if (by rfl) 28 _ rfl (w.heap.size) rfl 28 _ (0, 0) _ f1 under_mat rfl info_mat ?_))
  refine (composes_any X1 a _).mono ?_
  rintro e w9 ⟨rfl, hb9⟩
  have h9 := below_next hb9 h8
  clear f0 f1
  clear hb9 h8
  go_wp2_with fail
  go_ret
  exact ⟨rfl, below_next h9 kb2.out⟩
end Go.Proofs.Ytdaeacakgpjjgaa
