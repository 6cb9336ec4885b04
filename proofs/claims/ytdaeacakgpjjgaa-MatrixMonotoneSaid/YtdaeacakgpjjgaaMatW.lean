/- Proved: the reference's tests of parts of vectors and matrices. Conditions: as each theorem states. -/
import Derived.Test.YtdaeacakgpjjgaaMatA
import Derived.Test.YtdaeacakgpjjgaaIvH
namespace Go.Proofs.Ytdaeacakgpjjgaa
open Go.RowKit

def withinVB (u v : V3) : Bool := withinB u.x v.x && withinB u.y v.y && withinB u.z v.z
def withinMB (m n : M3) : Bool := withinVB m.x n.x && withinVB m.y n.y && withinVB m.z n.z
set_option linter.unusedSimpArgs false in
set_option linter.unusedVariables false in
set_option maxRecDepth 100000 in
set_option maxHeartbeats 12800000 in
theorem rWithinVec_any (u v : V3) (w : World) :
    Calls Try.prog 50 #[ .agg #[.int .i64 (u).x.lo, .int .i64 (u).x.hi, .int .i64 (u).y.lo, .int .i64 (u).y.hi, .int .i64 (u).z.lo, .int .i64 (u).z.hi], .agg #[.int .i64 (v).x.lo, .int .i64 (v).x.hi, .int .i64 (v).y.lo, .int .i64 (v).y.hi, .int .i64 (v).z.lo, .int .i64 (v).z.hi] ] w fun e w' => e = .returned (.bool (withinVB u v)) ∧ Below w.heap.size w w' := by
  have U0 := Lib.hid (show VecAt ((w.alloc (.cells #[.int .i64 (u).x.lo, .int .i64 (u).x.hi, .int .i64 (u).y.lo, .int .i64 (u).y.hi, .int .i64 (u).z.lo, .int .i64 (u).z.hi] 31)).alloc (.cells #[.int .i64 (v).x.lo, .int .i64 (v).x.hi, .int .i64 (v).y.lo, .int .i64 (v).y.hi, .int .i64 (v).z.lo, .int .i64 (v).z.hi] 31)) w.heap.size u from (VecAt.new w u).alloc _)
  have V0 := Lib.hid (show VecAt ((w.alloc (.cells #[.int .i64 (u).x.lo, .int .i64 (u).x.hi, .int .i64 (u).y.lo, .int .i64 (u).y.hi, .int .i64 (u).z.lo, .int .i64 (u).z.hi] 31)).alloc (.cells #[.int .i64 (v).x.lo, .int .i64 (v).x.hi, .int .i64 (v).y.lo, .int .i64 (v).y.hi, .int .i64 (v).z.lo, .int .i64 (v).z.hi] 31)) (w.heap.size + 1) v from VecAt.at_new (by simp))
  have B0 := Lib.hid (show Below w.heap.size w ((w.alloc (.cells #[.int .i64 (u).x.lo, .int .i64 (u).x.hi, .int .i64 (u).y.lo, .int .i64 (u).y.hi, .int .i64 (u).z.lo, .int .i64 (u).z.hi] 31)).alloc (.cells #[.int .i64 (v).x.lo, .int .i64 (v).x.hi, .int .i64 (v).y.lo, .int .i64 (v).y.hi, .int .i64 (v).z.lo, .int .i64 (v).z.hi] 31)) from below_alloc (below_alloc (Below.refl _ _) _) _)
  by_cases h1 : withinB u.x v.x = true
  · by_cases h2 : withinB u.y v.y = true
    · go_enter Try.func50, Try.ntmps50
      go_wp2_with fail
      obtain ⟨V, hV⟩ : ∃ V : World, V = ((w.alloc (.cells #[.int .i64 (u).x.lo, .int .i64 (u).x.hi, .int .i64 (u).y.lo, .int .i64 (u).y.hi, .int .i64 (u).z.lo, .int .i64 (u).z.hi] 31)).alloc (.cells #[.int .i64 (v).x.lo, .int .i64 (v).x.hi, .int .i64 (v).y.lo, .int .i64 (v).y.hi, .int .i64 (v).z.lo, .int .i64 (v).z.hi] 31)) := ⟨_, rfl⟩
      rw [← hV] at U0 V0 B0 ⊢
      clear hV
      have a0 := U0.out.c0
      have b0 := V0.out.c0
      have a1 := U0.out.c1
      have b1 := V0.out.c1
      have a2 := U0.out.c2
      have b2 := V0.out.c2
      have a3 := U0.out.c3
      have b3 := V0.out.c3
      have a4 := U0.out.c4
      have b4 := V0.out.c4
      have a5 := U0.out.c5
      have b5 := V0.out.c5
      have q : w.heap.size + 1 < V.heap.size := V0.out.lt
      have q' : w.heap.size < V.heap.size := U0.out.lt
      refine (rWithin_any _ _ _).mono ?_
      rintro e w1 ⟨rfl, hb⟩
      obtain ⟨hc, hf⟩ := bcell hb
      go_wp2_with fail
      refine (rWithin_any _ _ _).mono ?_
      rintro e w2 ⟨rfl, hb2⟩
      replace hb := below_next hb2 hb
      clear hb2 hc hf
      obtain ⟨hc, hf⟩ := bcell hb
      go_wp2_with fail
      refine (rWithin_any _ _ _).mono ?_
      rintro e w2 ⟨rfl, hb2⟩
      replace hb := below_next hb2 hb
      clear hb2 hc hf
      obtain ⟨hc, hf⟩ := bcell hb
      go_wp2_with fail
      go_ret
      exact ⟨ret_bool (by unfold withinVB; simp [h1, h2]), below_next hb B0.out⟩
    · have h2f : withinB u.y v.y = false := by simpa using h2
      clear h2
      go_enter Try.func50, Try.ntmps50
      go_wp2_with fail
      obtain ⟨V, hV⟩ : ∃ V : World, V = ((w.alloc (.cells #[.int .i64 (u).x.lo, .int .i64 (u).x.hi, .int .i64 (u).y.lo, .int .i64 (u).y.hi, .int .i64 (u).z.lo, .int .i64 (u).z.hi] 31)).alloc (.cells #[.int .i64 (v).x.lo, .int .i64 (v).x.hi, .int .i64 (v).y.lo, .int .i64 (v).y.hi, .int .i64 (v).z.lo, .int .i64 (v).z.hi] 31)) := ⟨_, rfl⟩
      rw [← hV] at U0 V0 B0 ⊢
      clear hV
      have a0 := U0.out.c0
      have b0 := V0.out.c0
      have a1 := U0.out.c1
      have b1 := V0.out.c1
      have a2 := U0.out.c2
      have b2 := V0.out.c2
      have a3 := U0.out.c3
      have b3 := V0.out.c3
      have a4 := U0.out.c4
      have b4 := V0.out.c4
      have a5 := U0.out.c5
      have b5 := V0.out.c5
      have q : w.heap.size + 1 < V.heap.size := V0.out.lt
      have q' : w.heap.size < V.heap.size := U0.out.lt
      refine (rWithin_any _ _ _).mono ?_
      rintro e w1 ⟨rfl, hb⟩
      obtain ⟨hc, hf⟩ := bcell hb
      go_wp2_with fail
      refine (rWithin_any _ _ _).mono ?_
      rintro e w2 ⟨rfl, hb2⟩
      replace hb := below_next hb2 hb
      clear hb2 hc hf
      obtain ⟨hc, hf⟩ := bcell hb
      go_wp2_with fail
      go_ret
      exact ⟨ret_bool (by unfold withinVB; simp [h1, h2f]), below_next hb B0.out⟩
  · have h1f : withinB u.x v.x = false := by simpa using h1
    clear h1
    go_enter Try.func50, Try.ntmps50
    go_wp2_with fail
    obtain ⟨V, hV⟩ : ∃ V : World, V = ((w.alloc (.cells #[.int .i64 (u).x.lo, .int .i64 (u).x.hi, .int .i64 (u).y.lo, .int .i64 (u).y.hi, .int .i64 (u).z.lo, .int .i64 (u).z.hi] 31)).alloc (.cells #[.int .i64 (v).x.lo, .int .i64 (v).x.hi, .int .i64 (v).y.lo, .int .i64 (v).y.hi, .int .i64 (v).z.lo, .int .i64 (v).z.hi] 31)) := ⟨_, rfl⟩
    rw [← hV] at U0 V0 B0 ⊢
    clear hV
    have a0 := U0.out.c0
    have b0 := V0.out.c0
    have a1 := U0.out.c1
    have b1 := V0.out.c1
    have a2 := U0.out.c2
    have b2 := V0.out.c2
    have a3 := U0.out.c3
    have b3 := V0.out.c3
    have a4 := U0.out.c4
    have b4 := V0.out.c4
    have a5 := U0.out.c5
    have b5 := V0.out.c5
    have q : w.heap.size + 1 < V.heap.size := V0.out.lt
    have q' : w.heap.size < V.heap.size := U0.out.lt
    refine (rWithin_any _ _ _).mono ?_
    rintro e w1 ⟨rfl, hb⟩
    obtain ⟨hc, hf⟩ := bcell hb
    go_wp2_with fail
    go_ret
    exact ⟨ret_bool (by unfold withinVB; simp [h1f]), below_next hb B0.out⟩
set_option linter.unusedSimpArgs false in
set_option linter.unusedVariables false in
set_option maxRecDepth 100000 in
set_option maxHeartbeats 12800000 in
theorem rWithinMat_any (u v : M3) (w : World) :
    Calls Try.prog 53 #[ .agg #[.int .i64 ((u).x).x.lo, .int .i64 ((u).x).x.hi, .int .i64 ((u).x).y.lo, .int .i64 ((u).x).y.hi, .int .i64 ((u).x).z.lo, .int .i64 ((u).x).z.hi, .int .i64 ((u).y).x.lo, .int .i64 ((u).y).x.hi, .int .i64 ((u).y).y.lo, .int .i64 ((u).y).y.hi, .int .i64 ((u).y).z.lo, .int .i64 ((u).y).z.hi, .int .i64 ((u).z).x.lo, .int .i64 ((u).z).x.hi, .int .i64 ((u).z).y.lo, .int .i64 ((u).z).y.hi, .int .i64 ((u).z).z.lo, .int .i64 ((u).z).z.hi], .agg #[.int .i64 ((v).x).x.lo, .int .i64 ((v).x).x.hi, .int .i64 ((v).x).y.lo, .int .i64 ((v).x).y.hi, .int .i64 ((v).x).z.lo, .int .i64 ((v).x).z.hi, .int .i64 ((v).y).x.lo, .int .i64 ((v).y).x.hi, .int .i64 ((v).y).y.lo, .int .i64 ((v).y).y.hi, .int .i64 ((v).y).z.lo, .int .i64 ((v).y).z.hi, .int .i64 ((v).z).x.lo, .int .i64 ((v).z).x.hi, .int .i64 ((v).z).y.lo, .int .i64 ((v).z).y.hi, .int .i64 ((v).z).z.lo, .int .i64 ((v).z).z.hi] ] w fun e w' => e = .returned (.bool (withinMB u v)) ∧ Below w.heap.size w w' := by
  have U0 := Lib.hid (show MatAt ((w.alloc (.cells #[.int .i64 ((u).x).x.lo, .int .i64 ((u).x).x.hi, .int .i64 ((u).x).y.lo, .int .i64 ((u).x).y.hi, .int .i64 ((u).x).z.lo, .int .i64 ((u).x).z.hi, .int .i64 ((u).y).x.lo, .int .i64 ((u).y).x.hi, .int .i64 ((u).y).y.lo, .int .i64 ((u).y).y.hi, .int .i64 ((u).y).z.lo, .int .i64 ((u).y).z.hi, .int .i64 ((u).z).x.lo, .int .i64 ((u).z).x.hi, .int .i64 ((u).z).y.lo, .int .i64 ((u).z).y.hi, .int .i64 ((u).z).z.lo, .int .i64 ((u).z).z.hi] 28)).alloc (.cells #[.int .i64 ((v).x).x.lo, .int .i64 ((v).x).x.hi, .int .i64 ((v).x).y.lo, .int .i64 ((v).x).y.hi, .int .i64 ((v).x).z.lo, .int .i64 ((v).x).z.hi, .int .i64 ((v).y).x.lo, .int .i64 ((v).y).x.hi, .int .i64 ((v).y).y.lo, .int .i64 ((v).y).y.hi, .int .i64 ((v).y).z.lo, .int .i64 ((v).y).z.hi, .int .i64 ((v).z).x.lo, .int .i64 ((v).z).x.hi, .int .i64 ((v).z).y.lo, .int .i64 ((v).z).y.hi, .int .i64 ((v).z).z.lo, .int .i64 ((v).z).z.hi] 28)) w.heap.size u from (MatAt.new w u).alloc _)
  have V0 := Lib.hid (show MatAt ((w.alloc (.cells #[.int .i64 ((u).x).x.lo, .int .i64 ((u).x).x.hi, .int .i64 ((u).x).y.lo, .int .i64 ((u).x).y.hi, .int .i64 ((u).x).z.lo, .int .i64 ((u).x).z.hi, .int .i64 ((u).y).x.lo, .int .i64 ((u).y).x.hi, .int .i64 ((u).y).y.lo, .int .i64 ((u).y).y.hi, .int .i64 ((u).y).z.lo, .int .i64 ((u).y).z.hi, .int .i64 ((u).z).x.lo, .int .i64 ((u).z).x.hi, .int .i64 ((u).z).y.lo, .int .i64 ((u).z).y.hi, .int .i64 ((u).z).z.lo, .int .i64 ((u).z).z.hi] 28)).alloc (.cells #[.int .i64 ((v).x).x.lo, .int .i64 ((v).x).x.hi, .int .i64 ((v).x).y.lo, .int .i64 ((v).x).y.hi, .int .i64 ((v).x).z.lo, .int .i64 ((v).x).z.hi, .int .i64 ((v).y).x.lo, .int .i64 ((v).y).x.hi, .int .i64 ((v).y).y.lo, .int .i64 ((v).y).y.hi, .int .i64 ((v).y).z.lo, .int .i64 ((v).y).z.hi, .int .i64 ((v).z).x.lo, .int .i64 ((v).z).x.hi, .int .i64 ((v).z).y.lo, .int .i64 ((v).z).y.hi, .int .i64 ((v).z).z.lo, .int .i64 ((v).z).z.hi] 28)) (w.heap.size + 1) v from MatAt.at_new (by simp))
  have B0 := Lib.hid (show Below w.heap.size w ((w.alloc (.cells #[.int .i64 ((u).x).x.lo, .int .i64 ((u).x).x.hi, .int .i64 ((u).x).y.lo, .int .i64 ((u).x).y.hi, .int .i64 ((u).x).z.lo, .int .i64 ((u).x).z.hi, .int .i64 ((u).y).x.lo, .int .i64 ((u).y).x.hi, .int .i64 ((u).y).y.lo, .int .i64 ((u).y).y.hi, .int .i64 ((u).y).z.lo, .int .i64 ((u).y).z.hi, .int .i64 ((u).z).x.lo, .int .i64 ((u).z).x.hi, .int .i64 ((u).z).y.lo, .int .i64 ((u).z).y.hi, .int .i64 ((u).z).z.lo, .int .i64 ((u).z).z.hi] 28)).alloc (.cells #[.int .i64 ((v).x).x.lo, .int .i64 ((v).x).x.hi, .int .i64 ((v).x).y.lo, .int .i64 ((v).x).y.hi, .int .i64 ((v).x).z.lo, .int .i64 ((v).x).z.hi, .int .i64 ((v).y).x.lo, .int .i64 ((v).y).x.hi, .int .i64 ((v).y).y.lo, .int .i64 ((v).y).y.hi, .int .i64 ((v).y).z.lo, .int .i64 ((v).y).z.hi, .int .i64 ((v).z).x.lo, .int .i64 ((v).z).x.hi, .int .i64 ((v).z).y.lo, .int .i64 ((v).z).y.hi, .int .i64 ((v).z).z.lo, .int .i64 ((v).z).z.hi] 28)) from below_alloc (below_alloc (Below.refl _ _) _) _)
  by_cases h1 : withinVB u.x v.x = true
  · by_cases h2 : withinVB u.y v.y = true
    · go_enter Try.func53, Try.ntmps53
      go_wp2_with fail
      obtain ⟨V, hV⟩ : ∃ V : World, V = ((w.alloc (.cells #[.int .i64 ((u).x).x.lo, .int .i64 ((u).x).x.hi, .int .i64 ((u).x).y.lo, .int .i64 ((u).x).y.hi, .int .i64 ((u).x).z.lo, .int .i64 ((u).x).z.hi, .int .i64 ((u).y).x.lo, .int .i64 ((u).y).x.hi, .int .i64 ((u).y).y.lo, .int .i64 ((u).y).y.hi, .int .i64 ((u).y).z.lo, .int .i64 ((u).y).z.hi, .int .i64 ((u).z).x.lo, .int .i64 ((u).z).x.hi, .int .i64 ((u).z).y.lo, .int .i64 ((u).z).y.hi, .int .i64 ((u).z).z.lo, .int .i64 ((u).z).z.hi] 28)).alloc (.cells #[.int .i64 ((v).x).x.lo, .int .i64 ((v).x).x.hi, .int .i64 ((v).x).y.lo, .int .i64 ((v).x).y.hi, .int .i64 ((v).x).z.lo, .int .i64 ((v).x).z.hi, .int .i64 ((v).y).x.lo, .int .i64 ((v).y).x.hi, .int .i64 ((v).y).y.lo, .int .i64 ((v).y).y.hi, .int .i64 ((v).y).z.lo, .int .i64 ((v).y).z.hi, .int .i64 ((v).z).x.lo, .int .i64 ((v).z).x.hi, .int .i64 ((v).z).y.lo, .int .i64 ((v).z).y.hi, .int .i64 ((v).z).z.lo, .int .i64 ((v).z).z.hi] 28)) := ⟨_, rfl⟩
      rw [← hV] at U0 V0 B0 ⊢
      clear hV
      have a0 := U0.out.c0
      have b0 := V0.out.c0
      have a1 := U0.out.c1
      have b1 := V0.out.c1
      have a2 := U0.out.c2
      have b2 := V0.out.c2
      have a3 := U0.out.c3
      have b3 := V0.out.c3
      have a4 := U0.out.c4
      have b4 := V0.out.c4
      have a5 := U0.out.c5
      have b5 := V0.out.c5
      have a6 := U0.out.c6
      have b6 := V0.out.c6
      have a7 := U0.out.c7
      have b7 := V0.out.c7
      have a8 := U0.out.c8
      have b8 := V0.out.c8
      have a9 := U0.out.c9
      have b9 := V0.out.c9
      have a10 := U0.out.c10
      have b10 := V0.out.c10
      have a11 := U0.out.c11
      have b11 := V0.out.c11
      have a12 := U0.out.c12
      have b12 := V0.out.c12
      have a13 := U0.out.c13
      have b13 := V0.out.c13
      have a14 := U0.out.c14
      have b14 := V0.out.c14
      have a15 := U0.out.c15
      have b15 := V0.out.c15
      have a16 := U0.out.c16
      have b16 := V0.out.c16
      have a17 := U0.out.c17
      have b17 := V0.out.c17
      have q : w.heap.size + 1 < V.heap.size := V0.out.lt
      have q' : w.heap.size < V.heap.size := U0.out.lt
      refine (rWithinVec_any u.x v.x _).mono ?_
      rintro e w1 ⟨rfl, hb⟩
      obtain ⟨hc, hf⟩ := bcell hb
      go_wp2_with fail
      refine (rWithinVec_any u.y v.y _).mono ?_
      rintro e w2 ⟨rfl, hb2⟩
      replace hb := below_next hb2 hb
      clear hb2 hc hf
      obtain ⟨hc, hf⟩ := bcell hb
      go_wp2_with fail
      refine (rWithinVec_any u.z v.z _).mono ?_
      rintro e w2 ⟨rfl, hb2⟩
      replace hb := below_next hb2 hb
      clear hb2 hc hf
      obtain ⟨hc, hf⟩ := bcell hb
      go_wp2_with fail
      go_ret
      exact ⟨ret_bool (by unfold withinMB; simp [h1, h2]), below_next hb B0.out⟩
    · have h2f : withinVB u.y v.y = false := by simpa using h2
      clear h2
      go_enter Try.func53, Try.ntmps53
      go_wp2_with fail
      obtain ⟨V, hV⟩ : ∃ V : World, V = ((w.alloc (.cells #[.int .i64 ((u).x).x.lo, .int .i64 ((u).x).x.hi, .int .i64 ((u).x).y.lo, .int .i64 ((u).x).y.hi, .int .i64 ((u).x).z.lo, .int .i64 ((u).x).z.hi, .int .i64 ((u).y).x.lo, .int .i64 ((u).y).x.hi, .int .i64 ((u).y).y.lo, .int .i64 ((u).y).y.hi, .int .i64 ((u).y).z.lo, .int .i64 ((u).y).z.hi, .int .i64 ((u).z).x.lo, .int .i64 ((u).z).x.hi, .int .i64 ((u).z).y.lo, .int .i64 ((u).z).y.hi, .int .i64 ((u).z).z.lo, .int .i64 ((u).z).z.hi] 28)).alloc (.cells #[.int .i64 ((v).x).x.lo, .int .i64 ((v).x).x.hi, .int .i64 ((v).x).y.lo, .int .i64 ((v).x).y.hi, .int .i64 ((v).x).z.lo, .int .i64 ((v).x).z.hi, .int .i64 ((v).y).x.lo, .int .i64 ((v).y).x.hi, .int .i64 ((v).y).y.lo, .int .i64 ((v).y).y.hi, .int .i64 ((v).y).z.lo, .int .i64 ((v).y).z.hi, .int .i64 ((v).z).x.lo, .int .i64 ((v).z).x.hi, .int .i64 ((v).z).y.lo, .int .i64 ((v).z).y.hi, .int .i64 ((v).z).z.lo, .int .i64 ((v).z).z.hi] 28)) := ⟨_, rfl⟩
      rw [← hV] at U0 V0 B0 ⊢
      clear hV
      have a0 := U0.out.c0
      have b0 := V0.out.c0
      have a1 := U0.out.c1
      have b1 := V0.out.c1
      have a2 := U0.out.c2
      have b2 := V0.out.c2
      have a3 := U0.out.c3
      have b3 := V0.out.c3
      have a4 := U0.out.c4
      have b4 := V0.out.c4
      have a5 := U0.out.c5
      have b5 := V0.out.c5
      have a6 := U0.out.c6
      have b6 := V0.out.c6
      have a7 := U0.out.c7
      have b7 := V0.out.c7
      have a8 := U0.out.c8
      have b8 := V0.out.c8
      have a9 := U0.out.c9
      have b9 := V0.out.c9
      have a10 := U0.out.c10
      have b10 := V0.out.c10
      have a11 := U0.out.c11
      have b11 := V0.out.c11
      have a12 := U0.out.c12
      have b12 := V0.out.c12
      have a13 := U0.out.c13
      have b13 := V0.out.c13
      have a14 := U0.out.c14
      have b14 := V0.out.c14
      have a15 := U0.out.c15
      have b15 := V0.out.c15
      have a16 := U0.out.c16
      have b16 := V0.out.c16
      have a17 := U0.out.c17
      have b17 := V0.out.c17
      have q : w.heap.size + 1 < V.heap.size := V0.out.lt
      have q' : w.heap.size < V.heap.size := U0.out.lt
      refine (rWithinVec_any u.x v.x _).mono ?_
      rintro e w1 ⟨rfl, hb⟩
      obtain ⟨hc, hf⟩ := bcell hb
      go_wp2_with fail
      refine (rWithinVec_any u.y v.y _).mono ?_
      rintro e w2 ⟨rfl, hb2⟩
      replace hb := below_next hb2 hb
      clear hb2 hc hf
      obtain ⟨hc, hf⟩ := bcell hb
      go_wp2_with fail
      go_ret
      exact ⟨ret_bool (by unfold withinMB; simp [h1, h2f]), below_next hb B0.out⟩
  · have h1f : withinVB u.x v.x = false := by simpa using h1
    clear h1
    go_enter Try.func53, Try.ntmps53
    go_wp2_with fail
    obtain ⟨V, hV⟩ : ∃ V : World, V = ((w.alloc (.cells #[.int .i64 ((u).x).x.lo, .int .i64 ((u).x).x.hi, .int .i64 ((u).x).y.lo, .int .i64 ((u).x).y.hi, .int .i64 ((u).x).z.lo, .int .i64 ((u).x).z.hi, .int .i64 ((u).y).x.lo, .int .i64 ((u).y).x.hi, .int .i64 ((u).y).y.lo, .int .i64 ((u).y).y.hi, .int .i64 ((u).y).z.lo, .int .i64 ((u).y).z.hi, .int .i64 ((u).z).x.lo, .int .i64 ((u).z).x.hi, .int .i64 ((u).z).y.lo, .int .i64 ((u).z).y.hi, .int .i64 ((u).z).z.lo, .int .i64 ((u).z).z.hi] 28)).alloc (.cells #[.int .i64 ((v).x).x.lo, .int .i64 ((v).x).x.hi, .int .i64 ((v).x).y.lo, .int .i64 ((v).x).y.hi, .int .i64 ((v).x).z.lo, .int .i64 ((v).x).z.hi, .int .i64 ((v).y).x.lo, .int .i64 ((v).y).x.hi, .int .i64 ((v).y).y.lo, .int .i64 ((v).y).y.hi, .int .i64 ((v).y).z.lo, .int .i64 ((v).y).z.hi, .int .i64 ((v).z).x.lo, .int .i64 ((v).z).x.hi, .int .i64 ((v).z).y.lo, .int .i64 ((v).z).y.hi, .int .i64 ((v).z).z.lo, .int .i64 ((v).z).z.hi] 28)) := ⟨_, rfl⟩
    rw [← hV] at U0 V0 B0 ⊢
    clear hV
    have a0 := U0.out.c0
    have b0 := V0.out.c0
    have a1 := U0.out.c1
    have b1 := V0.out.c1
    have a2 := U0.out.c2
    have b2 := V0.out.c2
    have a3 := U0.out.c3
    have b3 := V0.out.c3
    have a4 := U0.out.c4
    have b4 := V0.out.c4
    have a5 := U0.out.c5
    have b5 := V0.out.c5
    have a6 := U0.out.c6
    have b6 := V0.out.c6
    have a7 := U0.out.c7
    have b7 := V0.out.c7
    have a8 := U0.out.c8
    have b8 := V0.out.c8
    have a9 := U0.out.c9
    have b9 := V0.out.c9
    have a10 := U0.out.c10
    have b10 := V0.out.c10
    have a11 := U0.out.c11
    have b11 := V0.out.c11
    have a12 := U0.out.c12
    have b12 := V0.out.c12
    have a13 := U0.out.c13
    have b13 := V0.out.c13
    have a14 := U0.out.c14
    have b14 := V0.out.c14
    have a15 := U0.out.c15
    have b15 := V0.out.c15
    have a16 := U0.out.c16
    have b16 := V0.out.c16
    have a17 := U0.out.c17
    have b17 := V0.out.c17
    have q : w.heap.size + 1 < V.heap.size := V0.out.lt
    have q' : w.heap.size < V.heap.size := U0.out.lt
    refine (rWithinVec_any u.x v.x _).mono ?_
    rintro e w1 ⟨rfl, hb⟩
    obtain ⟨hc, hf⟩ := bcell hb
    go_wp2_with fail
    go_ret
    exact ⟨ret_bool (by unfold withinMB; simp [h1f]), below_next hb B0.out⟩
end Go.Proofs.Ytdaeacakgpjjgaa
