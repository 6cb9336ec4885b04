/- Proved: the statement PoseApplies returns true. Conditions: as each theorem states. -/
import Derived.Test.YtdplgiccpjlelaaPoL4
namespace Go.Proofs.Ytdplgiccpjlelaa
open Go.RowKit

/-- The load of a whole block whose guard says yes. -/
theorem wpList_load_row_if {P : Program} {ops : Array Oper} {rest : List Oper} {o : Oper} {a : Act} {w : World} {Q : Exit → Act → World → Prop} (hw : Region.wanted o (yielded ops a.tmps) = true) (ty : TypeId) (x : Operand) (ho : o.op = .load ty x)
    (g : Nat) (hx : a.eval x = .pointer (some ⟨g, 0, none⟩)) (t : TypeId) (cs : Array Value) (fr : Nat × Nat) (d : TypeDesc) (hg : w.heap[g]? = some (.cells cs t fr))
    (hu : P.underlying ty = some d) (hd : (match d with | .struct _ | .array _ _ => true | _ => false) = true) (hi : (P.info? ty).map (·.size) = some cs.size)
    (h : wpList P ops Q rest (a.put o.dst (.agg cs)) w) : wpList P ops Q (o :: rest) a w :=
  wpList_step fun K hK => by rw [if_pos hw]; exact wp_load_row ty x ho g hx t cs fr d hg hu hd hi (hK _ _ h)
set_option linter.unusedSimpArgs false in
set_option linter.unusedVariables false in
set_option maxRecDepth 100000 in
set_option maxHeartbeats 12800000 in
theorem PoseApplies_any (a b : Mo) (v : V3) (ao : Option Addr) (n cap : Nat) (w : World) (l : ListAt w ao n) :
    Calls Try.prog 4 #[ .agg #[.int .i64 ((a).r.x).x.lo, .int .i64 ((a).r.x).x.hi, .int .i64 ((a).r.x).y.lo, .int .i64 ((a).r.x).y.hi, .int .i64 ((a).r.x).z.lo, .int .i64 ((a).r.x).z.hi, .int .i64 ((a).r.y).x.lo, .int .i64 ((a).r.y).x.hi, .int .i64 ((a).r.y).y.lo, .int .i64 ((a).r.y).y.hi, .int .i64 ((a).r.y).z.lo, .int .i64 ((a).r.y).z.hi, .int .i64 ((a).r.z).x.lo, .int .i64 ((a).r.z).x.hi, .int .i64 ((a).r.z).y.lo, .int .i64 ((a).r.z).y.hi, .int .i64 ((a).r.z).z.lo, .int .i64 ((a).r.z).z.hi, .int .i64 ((a).t).x.lo, .int .i64 ((a).t).x.hi, .int .i64 ((a).t).y.lo, .int .i64 ((a).t).y.hi, .int .i64 ((a).t).z.lo, .int .i64 ((a).t).z.hi], .agg #[.int .i64 ((b).r.x).x.lo, .int .i64 ((b).r.x).x.hi, .int .i64 ((b).r.x).y.lo, .int .i64 ((b).r.x).y.hi, .int .i64 ((b).r.x).z.lo, .int .i64 ((b).r.x).z.hi, .int .i64 ((b).r.y).x.lo, .int .i64 ((b).r.y).x.hi, .int .i64 ((b).r.y).y.lo, .int .i64 ((b).r.y).y.hi, .int .i64 ((b).r.y).z.lo, .int .i64 ((b).r.y).z.hi, .int .i64 ((b).r.z).x.lo, .int .i64 ((b).r.z).x.hi, .int .i64 ((b).r.z).y.lo, .int .i64 ((b).r.z).y.hi, .int .i64 ((b).r.z).z.lo, .int .i64 ((b).r.z).z.hi, .int .i64 ((b).t).x.lo, .int .i64 ((b).t).x.hi, .int .i64 ((b).t).y.lo, .int .i64 ((b).t).y.hi, .int .i64 ((b).t).z.lo, .int .i64 ((b).t).z.hi], .agg #[.int .i64 (v).x.lo, .int .i64 (v).x.hi, .int .i64 (v).y.lo, .int .i64 (v).y.hi, .int .i64 (v).z.lo, .int .i64 (v).z.hi], .slice ao n cap ] w fun e w' => e = .returned (.bool true) ∧ Below w.heap.size w w' := by
  have kb := Lib.hid (show Below w.heap.size w (((w.alloc (.cells #[.int .i64 ((a).r.x).x.lo, .int .i64 ((a).r.x).x.hi, .int .i64 ((a).r.x).y.lo, .int .i64 ((a).r.x).y.hi, .int .i64 ((a).r.x).z.lo, .int .i64 ((a).r.x).z.hi, .int .i64 ((a).r.y).x.lo, .int .i64 ((a).r.y).x.hi, .int .i64 ((a).r.y).y.lo, .int .i64 ((a).r.y).y.hi, .int .i64 ((a).r.y).z.lo, .int .i64 ((a).r.y).z.hi, .int .i64 ((a).r.z).x.lo, .int .i64 ((a).r.z).x.hi, .int .i64 ((a).r.z).y.lo, .int .i64 ((a).r.z).y.hi, .int .i64 ((a).r.z).z.lo, .int .i64 ((a).r.z).z.hi, .int .i64 ((a).t).x.lo, .int .i64 ((a).t).x.hi, .int .i64 ((a).t).y.lo, .int .i64 ((a).t).y.hi, .int .i64 ((a).t).z.lo, .int .i64 ((a).t).z.hi] 29)).alloc (.cells #[.int .i64 ((b).r.x).x.lo, .int .i64 ((b).r.x).x.hi, .int .i64 ((b).r.x).y.lo, .int .i64 ((b).r.x).y.hi, .int .i64 ((b).r.x).z.lo, .int .i64 ((b).r.x).z.hi, .int .i64 ((b).r.y).x.lo, .int .i64 ((b).r.y).x.hi, .int .i64 ((b).r.y).y.lo, .int .i64 ((b).r.y).y.hi, .int .i64 ((b).r.y).z.lo, .int .i64 ((b).r.y).z.hi, .int .i64 ((b).r.z).x.lo, .int .i64 ((b).r.z).x.hi, .int .i64 ((b).r.z).y.lo, .int .i64 ((b).r.z).y.hi, .int .i64 ((b).r.z).z.lo, .int .i64 ((b).r.z).z.hi, .int .i64 ((b).t).x.lo, .int .i64 ((b).t).x.hi, .int .i64 ((b).t).y.lo, .int .i64 ((b).t).y.hi, .int .i64 ((b).t).z.lo, .int .i64 ((b).t).z.hi] 29)).alloc (.cells #[.int .i64 (v).x.lo, .int .i64 (v).x.hi, .int .i64 (v).y.lo, .int .i64 (v).y.hi, .int .i64 (v).z.lo, .int .i64 (v).z.hi] 27)) from below_alloc (below_alloc (below_alloc (Below.refl _ _) _) _) _)
  have H0 := Lib.hid (show PoseAt (((w.alloc (.cells #[.int .i64 ((a).r.x).x.lo, .int .i64 ((a).r.x).x.hi, .int .i64 ((a).r.x).y.lo, .int .i64 ((a).r.x).y.hi, .int .i64 ((a).r.x).z.lo, .int .i64 ((a).r.x).z.hi, .int .i64 ((a).r.y).x.lo, .int .i64 ((a).r.y).x.hi, .int .i64 ((a).r.y).y.lo, .int .i64 ((a).r.y).y.hi, .int .i64 ((a).r.y).z.lo, .int .i64 ((a).r.y).z.hi, .int .i64 ((a).r.z).x.lo, .int .i64 ((a).r.z).x.hi, .int .i64 ((a).r.z).y.lo, .int .i64 ((a).r.z).y.hi, .int .i64 ((a).r.z).z.lo, .int .i64 ((a).r.z).z.hi, .int .i64 ((a).t).x.lo, .int .i64 ((a).t).x.hi, .int .i64 ((a).t).y.lo, .int .i64 ((a).t).y.hi, .int .i64 ((a).t).z.lo, .int .i64 ((a).t).z.hi] 29)).alloc (.cells #[.int .i64 ((b).r.x).x.lo, .int .i64 ((b).r.x).x.hi, .int .i64 ((b).r.x).y.lo, .int .i64 ((b).r.x).y.hi, .int .i64 ((b).r.x).z.lo, .int .i64 ((b).r.x).z.hi, .int .i64 ((b).r.y).x.lo, .int .i64 ((b).r.y).x.hi, .int .i64 ((b).r.y).y.lo, .int .i64 ((b).r.y).y.hi, .int .i64 ((b).r.y).z.lo, .int .i64 ((b).r.y).z.hi, .int .i64 ((b).r.z).x.lo, .int .i64 ((b).r.z).x.hi, .int .i64 ((b).r.z).y.lo, .int .i64 ((b).r.z).y.hi, .int .i64 ((b).r.z).z.lo, .int .i64 ((b).r.z).z.hi, .int .i64 ((b).t).x.lo, .int .i64 ((b).t).x.hi, .int .i64 ((b).t).y.lo, .int .i64 ((b).t).y.hi, .int .i64 ((b).t).z.lo, .int .i64 ((b).t).z.hi] 29)).alloc (.cells #[.int .i64 (v).x.lo, .int .i64 (v).x.hi, .int .i64 (v).y.lo, .int .i64 (v).y.hi, .int .i64 (v).z.lo, .int .i64 (v).z.hi] 27)) w.heap.size a from (PoseAt.alloc (PoseAt.at_new (v := a) rfl) _).alloc _)
  have H1 := Lib.hid (show PoseAt (((w.alloc (.cells #[.int .i64 ((a).r.x).x.lo, .int .i64 ((a).r.x).x.hi, .int .i64 ((a).r.x).y.lo, .int .i64 ((a).r.x).y.hi, .int .i64 ((a).r.x).z.lo, .int .i64 ((a).r.x).z.hi, .int .i64 ((a).r.y).x.lo, .int .i64 ((a).r.y).x.hi, .int .i64 ((a).r.y).y.lo, .int .i64 ((a).r.y).y.hi, .int .i64 ((a).r.y).z.lo, .int .i64 ((a).r.y).z.hi, .int .i64 ((a).r.z).x.lo, .int .i64 ((a).r.z).x.hi, .int .i64 ((a).r.z).y.lo, .int .i64 ((a).r.z).y.hi, .int .i64 ((a).r.z).z.lo, .int .i64 ((a).r.z).z.hi, .int .i64 ((a).t).x.lo, .int .i64 ((a).t).x.hi, .int .i64 ((a).t).y.lo, .int .i64 ((a).t).y.hi, .int .i64 ((a).t).z.lo, .int .i64 ((a).t).z.hi] 29)).alloc (.cells #[.int .i64 ((b).r.x).x.lo, .int .i64 ((b).r.x).x.hi, .int .i64 ((b).r.x).y.lo, .int .i64 ((b).r.x).y.hi, .int .i64 ((b).r.x).z.lo, .int .i64 ((b).r.x).z.hi, .int .i64 ((b).r.y).x.lo, .int .i64 ((b).r.y).x.hi, .int .i64 ((b).r.y).y.lo, .int .i64 ((b).r.y).y.hi, .int .i64 ((b).r.y).z.lo, .int .i64 ((b).r.y).z.hi, .int .i64 ((b).r.z).x.lo, .int .i64 ((b).r.z).x.hi, .int .i64 ((b).r.z).y.lo, .int .i64 ((b).r.z).y.hi, .int .i64 ((b).r.z).z.lo, .int .i64 ((b).r.z).z.hi, .int .i64 ((b).t).x.lo, .int .i64 ((b).t).x.hi, .int .i64 ((b).t).y.lo, .int .i64 ((b).t).y.hi, .int .i64 ((b).t).z.lo, .int .i64 ((b).t).z.hi] 29)).alloc (.cells #[.int .i64 (v).x.lo, .int .i64 (v).x.hi, .int .i64 (v).y.lo, .int .i64 (v).y.hi, .int .i64 (v).z.lo, .int .i64 (v).z.hi] 27)) (w.heap.size + 1) b from PoseAt.alloc (PoseAt.at_new (v := b) (by simp)) _)
  have H2 := Lib.hid (show VecAt (((w.alloc (.cells #[.int .i64 ((a).r.x).x.lo, .int .i64 ((a).r.x).x.hi, .int .i64 ((a).r.x).y.lo, .int .i64 ((a).r.x).y.hi, .int .i64 ((a).r.x).z.lo, .int .i64 ((a).r.x).z.hi, .int .i64 ((a).r.y).x.lo, .int .i64 ((a).r.y).x.hi, .int .i64 ((a).r.y).y.lo, .int .i64 ((a).r.y).y.hi, .int .i64 ((a).r.y).z.lo, .int .i64 ((a).r.y).z.hi, .int .i64 ((a).r.z).x.lo, .int .i64 ((a).r.z).x.hi, .int .i64 ((a).r.z).y.lo, .int .i64 ((a).r.z).y.hi, .int .i64 ((a).r.z).z.lo, .int .i64 ((a).r.z).z.hi, .int .i64 ((a).t).x.lo, .int .i64 ((a).t).x.hi, .int .i64 ((a).t).y.lo, .int .i64 ((a).t).y.hi, .int .i64 ((a).t).z.lo, .int .i64 ((a).t).z.hi] 29)).alloc (.cells #[.int .i64 ((b).r.x).x.lo, .int .i64 ((b).r.x).x.hi, .int .i64 ((b).r.x).y.lo, .int .i64 ((b).r.x).y.hi, .int .i64 ((b).r.x).z.lo, .int .i64 ((b).r.x).z.hi, .int .i64 ((b).r.y).x.lo, .int .i64 ((b).r.y).x.hi, .int .i64 ((b).r.y).y.lo, .int .i64 ((b).r.y).y.hi, .int .i64 ((b).r.y).z.lo, .int .i64 ((b).r.y).z.hi, .int .i64 ((b).r.z).x.lo, .int .i64 ((b).r.z).x.hi, .int .i64 ((b).r.z).y.lo, .int .i64 ((b).r.z).y.hi, .int .i64 ((b).r.z).z.lo, .int .i64 ((b).r.z).z.hi, .int .i64 ((b).t).x.lo, .int .i64 ((b).t).x.hi, .int .i64 ((b).t).y.lo, .int .i64 ((b).t).y.hi, .int .i64 ((b).t).z.lo, .int .i64 ((b).t).z.hi] 29)).alloc (.cells #[.int .i64 (v).x.lo, .int .i64 (v).x.hi, .int .i64 (v).y.lo, .int .i64 (v).y.hi, .int .i64 (v).z.lo, .int .i64 (v).z.hi] 27)) (w.heap.size + 1 + 1) v from VecAt.at_new (v := v) (by simp))
  have hl := Lib.hid (l.below kb.out)
  go_enter Try.func4, Try.ntmps4
  go_wp2_with fail
  obtain ⟨U, hU⟩ : ∃ U : World, U = (((w.alloc (.cells #[.int .i64 ((a).r.x).x.lo, .int .i64 ((a).r.x).x.hi, .int .i64 ((a).r.x).y.lo, .int .i64 ((a).r.x).y.hi, .int .i64 ((a).r.x).z.lo, .int .i64 ((a).r.x).z.hi, .int .i64 ((a).r.y).x.lo, .int .i64 ((a).r.y).x.hi, .int .i64 ((a).r.y).y.lo, .int .i64 ((a).r.y).y.hi, .int .i64 ((a).r.y).z.lo, .int .i64 ((a).r.y).z.hi, .int .i64 ((a).r.z).x.lo, .int .i64 ((a).r.z).x.hi, .int .i64 ((a).r.z).y.lo, .int .i64 ((a).r.z).y.hi, .int .i64 ((a).r.z).z.lo, .int .i64 ((a).r.z).z.hi, .int .i64 ((a).t).x.lo, .int .i64 ((a).t).x.hi, .int .i64 ((a).t).y.lo, .int .i64 ((a).t).y.hi, .int .i64 ((a).t).z.lo, .int .i64 ((a).t).z.hi] 29)).alloc (.cells #[.int .i64 ((b).r.x).x.lo, .int .i64 ((b).r.x).x.hi, .int .i64 ((b).r.x).y.lo, .int .i64 ((b).r.x).y.hi, .int .i64 ((b).r.x).z.lo, .int .i64 ((b).r.x).z.hi, .int .i64 ((b).r.y).x.lo, .int .i64 ((b).r.y).x.hi, .int .i64 ((b).r.y).y.lo, .int .i64 ((b).r.y).y.hi, .int .i64 ((b).r.y).z.lo, .int .i64 ((b).r.y).z.hi, .int .i64 ((b).r.z).x.lo, .int .i64 ((b).r.z).x.hi, .int .i64 ((b).r.z).y.lo, .int .i64 ((b).r.z).y.hi, .int .i64 ((b).r.z).z.lo, .int .i64 ((b).r.z).z.hi, .int .i64 ((b).t).x.lo, .int .i64 ((b).t).x.hi, .int .i64 ((b).t).y.lo, .int .i64 ((b).t).y.hi, .int .i64 ((b).t).z.lo, .int .i64 ((b).t).z.hi] 29)).alloc (.cells #[.int .i64 (v).x.lo, .int .i64 (v).x.hi, .int .i64 (v).y.lo, .int .i64 (v).y.hi, .int .i64 (v).z.lo, .int .i64 (v).z.hi] 27)) := ⟨_, rfl⟩
  rw [← hU] at kb H0 H1 H2 hl ⊢
  clear hU l
  refine (From_any ao n cap _).mono ?_
  rintro e w1 ⟨rfl, hs0, hb1⟩
  have hs := src_of hl.out hb1 hs0
  obtain ⟨bq, hbz⟩ : ∃ bq, bq = U.heap.size := ⟨_, rfl⟩
  have q3 := H2.out.lt
  have q := hb1.size
  have Ikb := Lib.hid (below_next hb1 kb.out)
  have IH0 := Lib.hid (H0.out.below hb1)
  have IH1 := Lib.hid (H1.out.below hb1)
  have IH2 := Lib.hid (H2.out.below hb1)
  rw [← hbz] at hs ⊢
  have qb : U.heap.size ≤ bq := by omega
  have qf : w.heap.size + 1 + 1 < bq := by omega
  have qs := hs.lt
  have S1 := Lib.hid hs
  clear hs0 hb1 hl hbz q q3 hs qb kb H0 H1 H2
  go_wp2_with fail
  refine (motion_any bq bq true _ S1.out).mono ?_
  rintro e w2 ⟨p, tp, hp, rfl, hs2, hb2⟩
  have T2 := Lib.hid hs2
  have N2 := Lib.hid hb2
  have HP := Lib.hid hp
  clear hs2 hb2 S1 hp
  go_wp2_with fail
  refine (motion_any bq bq false _ T2.out).mono ?_
  rintro e w3 ⟨q, tq, hq, rfl, hs3, hb3⟩
  have T3 := Lib.hid hs3
  have HQ := Lib.hid hq
  have kbut := N2.out.trans hb3
  have z := kbut.size
  have Z0 : PoseAt ((w3.alloc (.cells #[.int .i64 0, .int .i64 0, .int .i64 0, .int .i64 0, .int .i64 0, .int .i64 0, .int .i64 0, .int .i64 0, .int .i64 0, .int .i64 0, .int .i64 0, .int .i64 0, .int .i64 0, .int .i64 0, .int .i64 0, .int .i64 0, .int .i64 0, .int .i64 0, .int .i64 0, .int .i64 0, .int .i64 0, .int .i64 0, .int .i64 0, .int .i64 0] 29)).alloc (.cells #[.int .i64 0, .int .i64 0, .int .i64 0, .int .i64 0, .int .i64 0, .int .i64 0, .int .i64 0, .int .i64 0, .int .i64 0, .int .i64 0, .int .i64 0, .int .i64 0, .int .i64 0, .int .i64 0, .int .i64 0, .int .i64 0, .int .i64 0, .int .i64 0, .int .i64 0, .int .i64 0, .int .i64 0, .int .i64 0, .int .i64 0, .int .i64 0] 29)) w3.heap.size zeroP := (PoseAt.at_new (v := zeroP) rfl).alloc _
  have Z1 : PoseAt (((w3.alloc (.cells #[.int .i64 0, .int .i64 0, .int .i64 0, .int .i64 0, .int .i64 0, .int .i64 0, .int .i64 0, .int .i64 0, .int .i64 0, .int .i64 0, .int .i64 0, .int .i64 0, .int .i64 0, .int .i64 0, .int .i64 0, .int .i64 0, .int .i64 0, .int .i64 0, .int .i64 0, .int .i64 0, .int .i64 0, .int .i64 0, .int .i64 0, .int .i64 0] 29)).alloc (.cells #[.int .i64 0, .int .i64 0, .int .i64 0, .int .i64 0, .int .i64 0, .int .i64 0, .int .i64 0, .int .i64 0, .int .i64 0, .int .i64 0, .int .i64 0, .int .i64 0, .int .i64 0, .int .i64 0, .int .i64 0, .int .i64 0, .int .i64 0, .int .i64 0, .int .i64 0, .int .i64 0, .int .i64 0, .int .i64 0, .int .i64 0, .int .i64 0] 29)).setRow w3.heap.size (poseC p)) (w3.heap.size + 1) zeroP := PoseAt.row (PoseAt.at_new (v := zeroP) (by simp)) (by omega)
  have J8 := Lib.hid (show PoseAt ((((w3.alloc (.cells #[.int .i64 0, .int .i64 0, .int .i64 0, .int .i64 0, .int .i64 0, .int .i64 0, .int .i64 0, .int .i64 0, .int .i64 0, .int .i64 0, .int .i64 0, .int .i64 0, .int .i64 0, .int .i64 0, .int .i64 0, .int .i64 0, .int .i64 0, .int .i64 0, .int .i64 0, .int .i64 0, .int .i64 0, .int .i64 0, .int .i64 0, .int .i64 0] 29)).alloc (.cells #[.int .i64 0, .int .i64 0, .int .i64 0, .int .i64 0, .int .i64 0, .int .i64 0, .int .i64 0, .int .i64 0, .int .i64 0, .int .i64 0, .int .i64 0, .int .i64 0, .int .i64 0, .int .i64 0, .int .i64 0, .int .i64 0, .int .i64 0, .int .i64 0, .int .i64 0, .int .i64 0, .int .i64 0, .int .i64 0, .int .i64 0, .int .i64 0] 29)).setRow w3.heap.size (poseC p)).setRow (w3.heap.size + 1) (poseC q)) w3.heap.size p from (Z0.put p).row (by omega))
  have J9 := Lib.hid (show PoseAt ((((w3.alloc (.cells #[.int .i64 0, .int .i64 0, .int .i64 0, .int .i64 0, .int .i64 0, .int .i64 0, .int .i64 0, .int .i64 0, .int .i64 0, .int .i64 0, .int .i64 0, .int .i64 0, .int .i64 0, .int .i64 0, .int .i64 0, .int .i64 0, .int .i64 0, .int .i64 0, .int .i64 0, .int .i64 0, .int .i64 0, .int .i64 0, .int .i64 0, .int .i64 0] 29)).alloc (.cells #[.int .i64 0, .int .i64 0, .int .i64 0, .int .i64 0, .int .i64 0, .int .i64 0, .int .i64 0, .int .i64 0, .int .i64 0, .int .i64 0, .int .i64 0, .int .i64 0, .int .i64 0, .int .i64 0, .int .i64 0, .int .i64 0, .int .i64 0, .int .i64 0, .int .i64 0, .int .i64 0, .int .i64 0, .int .i64 0, .int .i64 0, .int .i64 0] 29)).setRow w3.heap.size (poseC p)).setRow (w3.heap.size + 1) (poseC q)) (w3.heap.size + 1) q from Z1.put q)
  have yb : bq < w3.heap.size := by omega
  have J0 := Lib.hid ((IH0.out.but kbut (by omega)).lift2 (q := w3.heap.size) (c := poseC p) (c' := poseC q) (by have := (IH0.out.but kbut (by omega)).lt; omega))
  have J1 := Lib.hid ((IH1.out.but kbut (by omega)).lift2 (q := w3.heap.size) (c := poseC p) (c' := poseC q) (by have := (IH1.out.but kbut (by omega)).lt; omega))
  have J2 := Lib.hid ((IH2.out.but kbut (by omega)).lift2 (q := w3.heap.size) (c := poseC p) (c' := poseC q) (by have := (IH2.out.but kbut (by omega)).lt; omega))
  have S9 := Lib.hid (show Src bq ((((w3.alloc (.cells #[.int .i64 0, .int .i64 0, .int .i64 0, .int .i64 0, .int .i64 0, .int .i64 0, .int .i64 0, .int .i64 0, .int .i64 0, .int .i64 0, .int .i64 0, .int .i64 0, .int .i64 0, .int .i64 0, .int .i64 0, .int .i64 0, .int .i64 0, .int .i64 0, .int .i64 0, .int .i64 0, .int .i64 0, .int .i64 0, .int .i64 0, .int .i64 0] 29)).alloc (.cells #[.int .i64 0, .int .i64 0, .int .i64 0, .int .i64 0, .int .i64 0, .int .i64 0, .int .i64 0, .int .i64 0, .int .i64 0, .int .i64 0, .int .i64 0, .int .i64 0, .int .i64 0, .int .i64 0, .int .i64 0, .int .i64 0, .int .i64 0, .int .i64 0, .int .i64 0, .int .i64 0, .int .i64 0, .int .i64 0, .int .i64 0, .int .i64 0] 29)).setRow w3.heap.size (poseC p)).setRow (w3.heap.size + 1) (poseC q)) bq from T3.out.keep (fun q hq => by
    rw [setRow_other _ _ _ _ (by omega), setRow_other _ _ _ _ (by omega), Go.Deep.blk_alloc_lt _ _ _ (by simp; omega), Go.Deep.blk_alloc_lt _ _ _ (by omega)]))
  have N9 := Lib.hid (show But bq w1 ((((w3.alloc (.cells #[.int .i64 0, .int .i64 0, .int .i64 0, .int .i64 0, .int .i64 0, .int .i64 0, .int .i64 0, .int .i64 0, .int .i64 0, .int .i64 0, .int .i64 0, .int .i64 0, .int .i64 0, .int .i64 0, .int .i64 0, .int .i64 0, .int .i64 0, .int .i64 0, .int .i64 0, .int .i64 0, .int .i64 0, .int .i64 0, .int .i64 0, .int .i64 0] 29)).alloc (.cells #[.int .i64 0, .int .i64 0, .int .i64 0, .int .i64 0, .int .i64 0, .int .i64 0, .int .i64 0, .int .i64 0, .int .i64 0, .int .i64 0, .int .i64 0, .int .i64 0, .int .i64 0, .int .i64 0, .int .i64 0, .int .i64 0, .int .i64 0, .int .i64 0, .int .i64 0, .int .i64 0, .int .i64 0, .int .i64 0, .int .i64 0, .int .i64 0] 29)).setRow w3.heap.size (poseC p)).setRow (w3.heap.size + 1) (poseC q)) from (((kbut.alloc _).alloc _).row (by omega) _).row (by omega) _)
  clear IH0 IH1 IH2 N2 hb3 kbut T2 T3 hs3 hq HP HQ z
  go_wp2_with (first | (refine wpList_store_row rfl 29 _ _ rfl (w3.heap.size) (poseC (p)) rfl rfl 29 (poseC zeroP) Z0 info_pose rfl (pose_one _) ?_) | (refine wpList_store_row rfl 29 _ _ rfl (w3.heap.size + 1) (poseC (q)) rfl rfl 29 (poseC zeroP) Z1 info_pose rfl (pose_one _) ?_))
  obtain ⟨V, hV⟩ : ∃ V : World, V = ((((w3.alloc (.cells #[.int .i64 0, .int .i64 0, .int .i64 0, .int .i64 0, .int .i64 0, .int .i64 0, .int .i64 0, .int .i64 0, .int .i64 0, .int .i64 0, .int .i64 0, .int .i64 0, .int .i64 0, .int .i64 0, .int .i64 0, .int .i64 0, .int .i64 0, .int .i64 0, .int .i64 0, .int .i64 0, .int .i64 0, .int .i64 0, .int .i64 0, .int .i64 0] 29)).alloc (.cells #[.int .i64 0, .int .i64 0, .int .i64 0, .int .i64 0, .int .i64 0, .int .i64 0, .int .i64 0, .int .i64 0, .int .i64 0, .int .i64 0, .int .i64 0, .int .i64 0, .int .i64 0, .int .i64 0, .int .i64 0, .int .i64 0, .int .i64 0, .int .i64 0, .int .i64 0, .int .i64 0, .int .i64 0, .int .i64 0, .int .i64 0, .int .i64 0] 29)).setRow w3.heap.size (poseC p)).setRow (w3.heap.size + 1) (poseC q)) := ⟨_, rfl⟩
  obtain ⟨np, hnp⟩ : ∃ np, np = w3.heap.size := ⟨_, rfl⟩
  have yv := J9.out.lt
  rw [← hV] at J0 J1 J2 J8 J9 S9 N9 yv ⊢
  rw [← hnp] at J8 J9 yv yb ⊢
  clear hV Z0 Z1 hnp
  refine (Signed_any bq bq 70000 _ S9.out (by decide) (by decide)).mono ?_
  rintro e w4 ⟨x, x1, x2, rfl, hs4, hb4⟩
  have S4 := Lib.hid hs4
  have N4 := Lib.hid (N9.out.trans hb4)
  have J0_4 := Lib.hid (J0.out.but hb4 (by omega))
  have J1_4 := Lib.hid (J1.out.but hb4 (by omega))
  have J2_4 := Lib.hid (J2.out.but hb4 (by omega))
  have J8_4 := Lib.hid (J8.out.but hb4 (by omega))
  have J9_4 := Lib.hid (J9.out.but hb4 (by omega))
  clear hs4 hb4 x1 x2 S9 N9 J0 J1 J2 J8 J9
  go_wp2_with fail
  refine (Signed_any bq bq 70000 _ S4.out (by decide) (by decide)).mono ?_
  rintro e w5 ⟨y, y1, y2, rfl, hs5, hb5⟩
  have S5 := Lib.hid hs5
  have N5 := Lib.hid (N4.out.trans hb5)
  have J0_5 := Lib.hid (J0_4.out.but hb5 (by omega))
  have J1_5 := Lib.hid (J1_4.out.but hb5 (by omega))
  have J2_5 := Lib.hid (J2_4.out.but hb5 (by omega))
  have J8_5 := Lib.hid (J8_4.out.but hb5 (by omega))
  have J9_5 := Lib.hid (J9_4.out.but hb5 (by omega))
  clear hs5 hb5 y1 y2 S4 N4 J0_4 J1_4 J2_4 J8_4 J9_4
  go_wp2_with fail
  refine (Signed_any bq bq 70000 _ S5.out (by decide) (by decide)).mono ?_
  rintro e w6 ⟨z, z1, z2, rfl, hs6, hb6⟩
  have S6 := Lib.hid hs6
  have N6 := Lib.hid (N5.out.trans hb6)
  have J0_6 := Lib.hid (J0_5.out.but hb6 (by omega))
  have J1_6 := Lib.hid (J1_5.out.but hb6 (by omega))
  have J2_6 := Lib.hid (J2_5.out.but hb6 (by omega))
  have J8_6 := Lib.hid (J8_5.out.but hb6 (by omega))
  have J9_6 := Lib.hid (J9_5.out.but hb6 (by omega))
  clear hs6 hb6 z1 z2 S5 N5 J0_5 J1_5 J2_5 J8_5 J9_5
  go_wp2_with fail
  refine (rPoint_any x y z _).mono ?_
  rintro e w7 ⟨rfl, hb7⟩
  generalize pntV x y z = u
  have y7 := hb7.size
  have N7 := N6.out.trans (But.of_below hb7)
  have y8 := N7.size
  have y9 := J9_6.out.lt
  have zv : VecAt (w7.alloc (.cells #[.int .i64 0, .int .i64 0, .int .i64 0, .int .i64 0, .int .i64 0, .int .i64 0] 27)) w7.heap.size zeroV := VecAt.at_new (v := zeroV) rfl
  have G3 := Lib.hid (show VecAt ((w7.alloc (.cells #[.int .i64 0, .int .i64 0, .int .i64 0, .int .i64 0, .int .i64 0, .int .i64 0] 27)).setRow w7.heap.size (vecC u)) w7.heap.size u from zv.put u)
  have kb2 := Lib.hid (show Below w.heap.size w ((w7.alloc (.cells #[.int .i64 0, .int .i64 0, .int .i64 0, .int .i64 0, .int .i64 0, .int .i64 0] 27)).setRow w7.heap.size (vecC u)) from setRow_below (below_alloc (N7.below Ikb.out (by omega) (by omega)) _) (by omega) _)
  have G0 := Lib.hid (((J0_6.out.below hb7).alloc (.cells #[.int .i64 0, .int .i64 0, .int .i64 0, .int .i64 0, .int .i64 0, .int .i64 0] 27)).row (q := w7.heap.size) (c := vecC u) (by have := J0_6.out.lt; omega))
  have G1 := Lib.hid (((J1_6.out.below hb7).alloc (.cells #[.int .i64 0, .int .i64 0, .int .i64 0, .int .i64 0, .int .i64 0, .int .i64 0] 27)).row (q := w7.heap.size) (c := vecC u) (by have := J1_6.out.lt; omega))
  have G2 := Lib.hid (((J2_6.out.below hb7).alloc (.cells #[.int .i64 0, .int .i64 0, .int .i64 0, .int .i64 0, .int .i64 0, .int .i64 0] 27)).row (q := w7.heap.size) (c := vecC u) (by have := J2_6.out.lt; omega))
  have G8 := Lib.hid (((J8_6.out.below hb7).alloc (.cells #[.int .i64 0, .int .i64 0, .int .i64 0, .int .i64 0, .int .i64 0, .int .i64 0] 27)).row (q := w7.heap.size) (c := vecC u) (by have := J8_6.out.lt; omega))
  have G9 := Lib.hid (((J9_6.out.below hb7).alloc (.cells #[.int .i64 0, .int .i64 0, .int .i64 0, .int .i64 0, .int .i64 0, .int .i64 0] 27)).row (q := w7.heap.size) (c := vecC u) (by have := J9_6.out.lt; omega))
  clear J0_6 J1_6 J2_6 J8_6 J9_6 N6 N7 S6 hb7 Ikb y7 y8 y9
  go_wp2_with (refine wpList_store_row rfl 27 _ _ rfl (w7.heap.size) (vecC (u)) rfl rfl 27 (vecC zeroV) zv info_vec rfl (vec_one _) ?_)
  obtain ⟨U, hU⟩ : ∃ U : World, U = ((w7.alloc (.cells #[.int .i64 0, .int .i64 0, .int .i64 0, .int .i64 0, .int .i64 0, .int .i64 0] 27)).setRow w7.heap.size (vecC u)) := ⟨_, rfl⟩
  rw [← hU] at G0 G1 G2 G3 G8 G9 kb2 ⊢
  clear hU zv
  (try simp only [Act.put, List.getElem_toArray, List.getElem_cons_succ, List.getElem_cons_zero, List.setIfInBounds_toArray, List.set_cons_zero, List.set_cons_succ])
  refine (pAwake_any _).mono ?_
  rintro e w8 ⟨rfl, hb8⟩
  have f0 := G0.out.below hb8
  have f1 := G1.out.below hb8
  have f2 := G2.out.below hb8
  go_wp2_with (first | (refine wpList_load_row_if (by rfl) 29 _ rfl (w.heap.size) rfl 29 _ (0, 0) _ f0 under_pose rfl info_pose ?_) | (refine wpList_load_row_if (by rfl) 29 _ rfl (w.heap.size + 1) rfl 29 _ (0, 0) _ f1 under_pose rfl info_pose ?_) | (refine wpList_load_row_if (by rfl) 27 _ rfl (w.heap.size + 1 + 1) rfl 27 _ (0, 0) _ f2 under_vec rfl info_vec ?_))
  refine (pApplies_any a b v _).mono ?_
  rintro e w9 ⟨rfl, hb9⟩
  have h9 := below_next hb9 hb8
  clear f0 f1 f2 hb8 hb9
  have f0 := G8.out.below h9
  have f1 := G9.out.below h9
  have f2 := G3.out.below h9
  go_wp2_with (first | (refine wpList_load_row_if (by rfl) 29 _ rfl (np) rfl 29 _ (0, 0) _ f0 under_pose rfl info_pose ?_) | (refine wpList_load_row_if (by rfl) 29 _ rfl (np + 1) rfl 29 _ (0, 0) _ f1 under_pose rfl info_pose ?_) | (refine wpList_load_row_if (by rfl) 27 _ rfl (w7.heap.size) rfl 27 _ (0, 0) _ f2 under_vec rfl info_vec ?_))
  refine (pApplies_any p q u _).mono ?_
  rintro e w10 ⟨rfl, hb10⟩
  have h10 := below_next hb10 h9
  clear f0 f1 f2 h9 hb10
  have f0 := G8.out.below h10
  have f2 := G2.out.below h10
  go_wp2_with (first | (refine wpList_load_row_if (by rfl) 29 _ rfl (np) rfl 29 _ (0, 0) _ f0 under_pose rfl info_pose ?_) | (refine wpList_load_row_if (by rfl) 27 _ rfl (w.heap.size + 1 + 1) rfl 27 _ (0, 0) _ f2 under_vec rfl info_vec ?_))
  refine (pApplies_any p p v _).mono ?_
  rintro e w11 ⟨rfl, hb11⟩
  clear f0 f2
  go_wp2_with fail
  go_ret
  exact ⟨rfl, below_next hb11 (below_next h10 kb2.out)⟩
end Go.Proofs.Ytdplgiccpjlelaa
