/- Proved: statements of layer 2 return true. Conditions: the arguments are of their types. -/
import Derived.Test.YtgjeljbolhhphaaIvW1
import Derived.Deep.DeepCutAuto
namespace Go.Proofs.Ytgjeljbolhhphaa
open Go.RowKit
/-- The test of the statements: x belongs to a, or is beyond the range. -/
theorem holds_any (a : Iv) (x : Int) (w : World) (h : Holds a x) :
    Calls Try.prog 21 #[ .agg #[.int .i64 a.lo, .int .i64 a.hi], .int .i64 x ] w fun e w' => e = .returned (.bool true) ∧ Below w.heap.size w w' := by
  by_cases h1 : x < -2147483648
  · clear h
    go_enter Try.func21, Try.ntmps21
    go_wp2
    go_ret
    exact ⟨rfl, by (repeat (first | exact Below.refl _ _ | (refine below_up ?_ hb; clear hb hc hf) | refine Below.setCell ?_ (by (try simp) <;> omega) _ | refine Below.alloc ?_ (by (try simp) <;> omega) _ | refine below_drewN ?_ | refine Below.drew ?_))⟩
  · by_cases h2 : 2147483648 < x
    · clear h
      go_enter Try.func21, Try.ntmps21
      go_wp2
      go_ret
      exact ⟨rfl, by (repeat (first | exact Below.refl _ _ | (refine below_up ?_ hb; clear hb hc hf) | refine Below.setCell ?_ (by (try simp) <;> omega) _ | refine Below.alloc ?_ (by (try simp) <;> omega) _ | refine below_drewN ?_ | refine Below.drew ?_))⟩
    · obtain ⟨h3, h4⟩ : a.lo ≤ x ∧ x ≤ a.hi := by rcases h with h | h | h <;> first | exact h | omega
      go_enter Try.func21, Try.ntmps21
      go_wp2
      go_ret
      exact ⟨rfl, by (repeat (first | exact Below.refl _ _ | (refine below_up ?_ hb; clear hb hc hf) | refine Below.setCell ?_ (by (try simp) <;> omega) _ | refine Below.alloc ?_ (by (try simp) <;> omega) _ | refine below_drewN ?_ | refine Below.drew ?_))⟩
set_option linter.unusedVariables false in
set_option maxRecDepth 100000 in
set_option maxHeartbeats 12800000 in
theorem IntervalEncloses_any (k l m n i j : Int) (w : World) (k1 : -9223372036854775808 ≤ k) (k2 : k ≤ 9223372036854775807) (l1 : -9223372036854775808 ≤ l) (l2 : l ≤ 9223372036854775807) (m1 : -9223372036854775808 ≤ m) (m2 : m ≤ 9223372036854775807) (n1 : -9223372036854775808 ≤ n) (n2 : n ≤ 9223372036854775807) (i1 : -9223372036854775808 ≤ i) (i2 : i ≤ 9223372036854775807) (j1 : -9223372036854775808 ≤ j) (j2 : j ≤ 9223372036854775807) :
    Calls Try.prog 6 #[ .int .i64 k, .int .i64 l, .int .i64 m, .int .i64 n, .int .i64 i, .int .i64 j ] w fun e w' => e = .returned (.bool true) ∧ Below w.heap.size w w' := by
  go_enter Try.func6, Try.ntmps6
  go_wp2_with fail
  go_at_call 11
  refine (Interval_any k l _ k1 k2 l1 l2).mono ?_
  rintro e w1 ⟨c, hc, rfl, hb1⟩
  go_wp2_with fail
  go_at_call 11
  refine (Interval_any m n _ m1 m2 n1 n2).mono ?_
  rintro e w2 ⟨d, hd, rfl, hb2⟩
  have HB := Lib.hid (below_next hb2 hb1)
  have HC := Lib.hid hc
  have HD := Lib.hid hd
  clear hb1 hb2 hc hd
  go_wp2_with fail
  obtain ⟨W, hW⟩ : ∃ W : World, W = (w2.alloc (.cells #[.int .i64 c.lo, .int .i64 c.hi] 23)).alloc (.cells #[.int .i64 d.lo, .int .i64 d.hi] 23) := ⟨_, rfl⟩
  have q1 : W.cell? ⟨w2.heap.size, 0, none⟩ = some (.int .i64 c.lo) := by rw [hW]; go_simp
  have q2 : W.cell? ⟨w2.heap.size, 1, none⟩ = some (.int .i64 c.hi) := by rw [hW]; go_simp
  have q3 : W.cell? ⟨w2.heap.size + 1, 0, none⟩ = some (.int .i64 d.lo) := by rw [hW]; go_simp
  have q4 : W.cell? ⟨w2.heap.size + 1, 1, none⟩ = some (.int .i64 d.hi) := by rw [hW]; go_simp
  have g1 : ∀ w', Below W.heap.size W w' → w'.cell? ⟨w2.heap.size, 0, none⟩ = some (.int .i64 c.lo) := fun w' h => cell_keep h q1
  have g2 : ∀ w', Below W.heap.size W w' → w'.cell? ⟨w2.heap.size, 1, none⟩ = some (.int .i64 c.hi) := fun w' h => cell_keep h q2
  have g3 : ∀ w', Below W.heap.size W w' → w'.cell? ⟨w2.heap.size + 1, 0, none⟩ = some (.int .i64 d.lo) := fun w' h => cell_keep h q3
  have g4 : ∀ w', Below W.heap.size W w' → w'.cell? ⟨w2.heap.size + 1, 1, none⟩ = some (.int .i64 d.hi) := fun w' h => cell_keep h q4
  have HW : Below w.heap.size w W := by rw [hW]; exact (HB.out.alloc HB.out.size _).alloc (by have := HB.out.size; simp; omega) _
  have HH := Lib.hid HW
  rw [← hW]
  clear HW hW
  have fl : ∀ (x y : Int) w, (Instr.field 23 (.agg #[.int .i64 x, .int .i64 y]) 0).run Try.prog w = .ok (.int .i64 x) w := fun _ _ _ => by kernel_rfl
  go_region_held3 (fun w' => Below W.heap.size W w') (first | exact below_next hb2 (by assumption) | assumption | exact (Below.refl _ _).drew | exact Below.drew (by assumption) | exact Hid.out (by assumption)) ((go_at_call 20; (with_reducible refine (Part_any _ _ _ _ ?_ (by omega) (by omega) (by omega) (by omega)).mono ?_); (first | exact HC.out | exact HD.out); rintro e w' ⟨a, ha, rfl, hb2⟩; (first | (have hA : Has c a.lo := has_lo ha) | (have hB : Has d a.lo := has_lo ha))))
  have l1' := (has_range hA).1
  have l2' := (has_range hA).2
  have l3' := (has_range hB).1
  have l4' := (has_range hB).2
  have p1 := add_holds hA hB
  have p2 := sub_holds hA hB
  have p3 := (mul_holds hA hB).1
  have p4 := (mul_holds hA hB).2
  have p5 := sqr_holds hA
  have p6 := neg_holds hA
  clear hA hB g1 g2 g3 g4 fl
  have hb : Below W.heap.size W w' := by assumption
  obtain ⟨hc, hf⟩ := bcell hb
  have z1 : w2.heap.size < W.heap.size := World.block_lt_of_cell? W _ q1
  have z2 : w2.heap.size + 1 < W.heap.size := World.block_lt_of_cell? W _ q3
  go_wp2_with (first | (go_at_call 12; refine (ivAwake_any _).mono ?_; rintro e w' ⟨rfl, hb2⟩; first | ((first | replace hb := below_next hb2 hb | replace hb := below_next hb2 (below_drewN hb) | replace hb := below_next hb2 (below_alloc hb _) | replace hb := below_next hb2 (below_drewN (below_alloc hb _)) | replace hb := below_next hb2 (below_alloc (below_drewN hb) _) | replace hb := below_next hb2 (below_alloc (below_alloc hb _) _)); clear hb2 hc hf; obtain ⟨hc, hf⟩ := bcell hb) | (have hb := hb2; clear hb2; obtain ⟨hc, hf⟩ := bcell hb)) | (go_at_call 22; refine (Add_any _ _ _).mono ?_; rintro e w' ⟨rfl, hb2⟩; first | ((first | replace hb := below_next hb2 hb | replace hb := below_next hb2 (below_drewN hb) | replace hb := below_next hb2 (below_alloc hb _) | replace hb := below_next hb2 (below_drewN (below_alloc hb _)) | replace hb := below_next hb2 (below_alloc (below_drewN hb) _) | replace hb := below_next hb2 (below_alloc (below_alloc hb _) _)); clear hb2 hc hf; obtain ⟨hc, hf⟩ := bcell hb) | (have hb := hb2; clear hb2; obtain ⟨hc, hf⟩ := bcell hb)) | (go_at_call 23; refine (Sub_any _ _ _).mono ?_; rintro e w' ⟨rfl, hb2⟩; first | ((first | replace hb := below_next hb2 hb | replace hb := below_next hb2 (below_drewN hb) | replace hb := below_next hb2 (below_alloc hb _) | replace hb := below_next hb2 (below_drewN (below_alloc hb _)) | replace hb := below_next hb2 (below_alloc (below_drewN hb) _) | replace hb := below_next hb2 (below_alloc (below_alloc hb _) _)); clear hb2 hc hf; obtain ⟨hc, hf⟩ := bcell hb) | (have hb := hb2; clear hb2; obtain ⟨hc, hf⟩ := bcell hb)) | (go_at_call 24; refine (Mul_any _ _ _).mono ?_; rintro e w' ⟨rfl, hb2⟩; first | ((first | replace hb := below_next hb2 hb | replace hb := below_next hb2 (below_drewN hb) | replace hb := below_next hb2 (below_alloc hb _) | replace hb := below_next hb2 (below_drewN (below_alloc hb _)) | replace hb := below_next hb2 (below_alloc (below_drewN hb) _) | replace hb := below_next hb2 (below_alloc (below_alloc hb _) _)); clear hb2 hc hf; obtain ⟨hc, hf⟩ := bcell hb) | (have hb := hb2; clear hb2; obtain ⟨hc, hf⟩ := bcell hb)) | (go_at_call 28; refine (Neg_any _ _).mono ?_; rintro e w' ⟨rfl, hb2⟩; first | ((first | replace hb := below_next hb2 hb | replace hb := below_next hb2 (below_drewN hb) | replace hb := below_next hb2 (below_alloc hb _) | replace hb := below_next hb2 (below_drewN (below_alloc hb _)) | replace hb := below_next hb2 (below_alloc (below_drewN hb) _) | replace hb := below_next hb2 (below_alloc (below_alloc hb _) _)); clear hb2 hc hf; obtain ⟨hc, hf⟩ := bcell hb) | (have hb := hb2; clear hb2; obtain ⟨hc, hf⟩ := bcell hb)) | (go_at_call 27; refine (Square_any _ _).mono ?_; rintro e w' ⟨rfl, hb2⟩; first | ((first | replace hb := below_next hb2 hb | replace hb := below_next hb2 (below_drewN hb) | replace hb := below_next hb2 (below_alloc hb _) | replace hb := below_next hb2 (below_drewN (below_alloc hb _)) | replace hb := below_next hb2 (below_alloc (below_drewN hb) _) | replace hb := below_next hb2 (below_alloc (below_alloc hb _) _)); clear hb2 hc hf; obtain ⟨hc, hf⟩ := bcell hb) | (have hb := hb2; clear hb2; obtain ⟨hc, hf⟩ := bcell hb)) | (go_at_call 25; refine (refMulDown_any _ _ _).mono ?_; rintro e w' ⟨rfl, rfl⟩) | (go_at_call 26; refine (refMulUp_any _ _ _).mono ?_; rintro e w' ⟨rfl, rfl⟩) | (go_at_call 21; refine (holds_any _ _ _ (by assumption)).mono ?_; rintro e w' ⟨rfl, hb2⟩; first | ((first | replace hb := below_next hb2 hb | replace hb := below_next hb2 (below_drewN hb) | replace hb := below_next hb2 (below_alloc hb _) | replace hb := below_next hb2 (below_drewN (below_alloc hb _)) | replace hb := below_next hb2 (below_alloc (below_drewN hb) _) | replace hb := below_next hb2 (below_alloc (below_alloc hb _) _)); clear hb2 hc hf; obtain ⟨hc, hf⟩ := bcell hb) | (have hb := hb2; clear hb2; obtain ⟨hc, hf⟩ := bcell hb)))
  go_ret
  exact ⟨rfl, below_up HH.out hb⟩
end Go.Proofs.Ytgjeljbolhhphaa
