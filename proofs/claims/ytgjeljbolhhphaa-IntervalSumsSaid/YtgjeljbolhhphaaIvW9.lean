/- Proved: a statement of layer 2 returns true. Conditions: the arguments are of their types. -/
import Derived.Test.YtgjeljbolhhphaaIvW6
import Derived.Test.YtgjeljbolhhphaaIvW7
import Derived.Test.YtgjeljbolhhphaaIvW8
namespace Go.Proofs.Ytgjeljbolhhphaa
open Go.RowKit
set_option linter.unusedVariables false in
set_option linter.unusedSimpArgs false in
set_option maxRecDepth 100000 in
set_option maxHeartbeats 12800000 in
theorem IntervalSums_any (a b : Iv) (x k l m n : Int) (w : World) (k1 : -9223372036854775808 ≤ k) (k2 : k ≤ 9223372036854775807) (l1 : -9223372036854775808 ≤ l) (l2 : l ≤ 9223372036854775807) (m1 : -9223372036854775808 ≤ m) (m2 : m ≤ 9223372036854775807) (n1 : -9223372036854775808 ≤ n) (n2 : n ≤ 9223372036854775807) :
    Calls Try.prog 3 #[ .agg #[.int .i64 a.lo, .int .i64 a.hi], .agg #[.int .i64 b.lo, .int .i64 b.hi], .int .i64 x, .int .i64 k, .int .i64 l, .int .i64 m, .int .i64 n ] w fun e w' => e = .returned (.bool true) ∧ Below w.heap.size w w' := by
  go_enter Try.func3, Try.ntmps3
  go_wp2_with fail
  go_at_call 11
  refine (Interval_any k l _ k1 k2 l1 l2).mono ?_
  rintro e w1 ⟨c, hc, rfl, hb1⟩
  go_wp2_with fail
  go_at_call 11
  refine (Interval_any m n _ m1 m2 n1 n2).mono ?_
  rintro e w2 ⟨d, hd, rfl, hb2⟩
  go_wp2_with fail
  obtain ⟨V, hV⟩ : ∃ V : World, V = (w2.alloc (.cells #[.int .i64 c.lo, .int .i64 c.hi] 23)).alloc (.cells #[.int .i64 d.lo, .int .i64 d.hi] 23) := ⟨_, rfl⟩
  have q0 : V.cell? ⟨w.heap.size, 0, none⟩ = some (.int .i64 (a.lo)) := by rw [hV]; refine cell_alloc' (cell_alloc' (cell_keep hb2 (cell_keep hb1 ?_)) _) _; go_simp
  have q1 : V.cell? ⟨w.heap.size, 1, none⟩ = some (.int .i64 (a.hi)) := by rw [hV]; refine cell_alloc' (cell_alloc' (cell_keep hb2 (cell_keep hb1 ?_)) _) _; go_simp
  have q2 : V.cell? ⟨w.heap.size + 1, 0, none⟩ = some (.int .i64 (b.lo)) := by rw [hV]; refine cell_alloc' (cell_alloc' (cell_keep hb2 (cell_keep hb1 ?_)) _) _; go_simp
  have q3 : V.cell? ⟨w.heap.size + 1, 1, none⟩ = some (.int .i64 (b.hi)) := by rw [hV]; refine cell_alloc' (cell_alloc' (cell_keep hb2 (cell_keep hb1 ?_)) _) _; go_simp
  have q4 : V.cell? ⟨w2.heap.size, 0, none⟩ = some (.int .i64 (c.lo)) := by rw [hV]; go_simp
  have q5 : V.cell? ⟨w2.heap.size, 1, none⟩ = some (.int .i64 (c.hi)) := by rw [hV]; go_simp
  have q6 : V.cell? ⟨w2.heap.size + 1, 0, none⟩ = some (.int .i64 (d.lo)) := by rw [hV]; go_simp
  have q7 : V.cell? ⟨w2.heap.size + 1, 1, none⟩ = some (.int .i64 (d.hi)) := by rw [hV]; go_simp
  have HV := Lib.hid (show Below w.heap.size w V by rw [hV]; exact below_alloc (below_alloc (below_next hb2 (below_next hb1 (((Below.refl _ _).alloc (Nat.le_refl _) _).alloc (by simp) _))) _) _)
  rw [← hV]
  clear hV hb1 hb2
  have e1 := validB_true hc
  have hb := Below.refl V.heap.size V
  have z0 := World.block_lt_of_cell? V _ q0
  have z1 := World.block_lt_of_cell? V _ q2
  have z2 := World.block_lt_of_cell? V _ q4
  have z3 := World.block_lt_of_cell? V _ q6
  obtain ⟨hc', hf⟩ := bcell hb
  clear hc' hf hc hd
  go_wp2_with (first | (go_at_call 12; refine (ivAwake_any _).mono ?_; rintro e w' ⟨rfl, hb2⟩; replace hb := hb2; clear hb2; obtain ⟨hc, hf⟩ := bcell hb) | (go_at_call 13; refine (sums_any _ _ _).mono ?_; rintro e w' ⟨rfl, hb2⟩; first | ((first | replace hb := below_next hb2 hb | replace hb := below_next hb2 (below_drewN hb) | replace hb := below_next hb2 (below_alloc hb _) | replace hb := below_next hb2 (below_drewN (below_alloc hb _)) | replace hb := below_next hb2 (below_alloc (below_drewN hb) _) | replace hb := below_next hb2 (below_alloc (below_alloc hb _) _)); clear hb2 hc hf; obtain ⟨hc, hf⟩ := bcell hb) | (have hb := hb2; clear hb2; obtain ⟨hc, hf⟩ := bcell hb)) | (go_at_call 14; refine (Of_any _ _).mono ?_; rintro e w' ⟨rfl, hb2⟩; first | ((first | replace hb := below_next hb2 hb | replace hb := below_next hb2 (below_drewN hb) | replace hb := below_next hb2 (below_alloc hb _) | replace hb := below_next hb2 (below_drewN (below_alloc hb _)) | replace hb := below_next hb2 (below_alloc (below_drewN hb) _) | replace hb := below_next hb2 (below_alloc (below_alloc hb _) _)); clear hb2 hc hf; obtain ⟨hc, hf⟩ := bcell hb) | (have hb := hb2; clear hb2; obtain ⟨hc, hf⟩ := bcell hb)) | (go_at_call 15; refine (rOf_any _ _).mono ?_; rintro e w' ⟨rfl, hb2⟩; first | ((first | replace hb := below_next hb2 hb | replace hb := below_next hb2 (below_drewN hb) | replace hb := below_next hb2 (below_alloc hb _) | replace hb := below_next hb2 (below_drewN (below_alloc hb _)) | replace hb := below_next hb2 (below_alloc (below_drewN hb) _) | replace hb := below_next hb2 (below_alloc (below_alloc hb _) _)); clear hb2 hc hf; obtain ⟨hc, hf⟩ := bcell hb) | (have hb := hb2; clear hb2; obtain ⟨hc, hf⟩ := bcell hb)) | (go_at_call 16; refine (Valid_any _ _).mono ?_; rintro e w' ⟨rfl, hb2⟩; first | ((first | replace hb := below_next hb2 hb | replace hb := below_next hb2 (below_drewN hb) | replace hb := below_next hb2 (below_alloc hb _) | replace hb := below_next hb2 (below_drewN (below_alloc hb _)) | replace hb := below_next hb2 (below_alloc (below_drewN hb) _) | replace hb := below_next hb2 (below_alloc (below_alloc hb _) _)); clear hb2 hc hf; obtain ⟨hc, hf⟩ := bcell hb) | (have hb := hb2; clear hb2; obtain ⟨hc, hf⟩ := bcell hb)))
  go_ret
  exact ⟨rfl, below_up HV.out hb⟩
end Go.Proofs.Ytgjeljbolhhphaa
