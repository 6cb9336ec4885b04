/- Proved: a statement of layer 2 returns true. Conditions: the arguments are of their types. -/
import Derived.Test.YtgjeljbolhhphaaIvW1
import Derived.Deep.DeepCutAuto
namespace Go.Proofs.Ytgjeljbolhhphaa
open Go.RowKit
/-- Two new blocks hold parts of c and of d; what was there has not turned. -/
def Parts (c d : Iv) (W : World) (s t : Value) (wx : World) : Prop := ∃ (p q : Nat) (a b : Iv), s = .pointer (some ⟨p, 0, none⟩) ∧ t = .pointer (some ⟨q, 0, none⟩) ∧ (Within a c ∧ Within b d) ∧
  (wx.cell? ⟨p, 0, none⟩ = some (.int .i64 a.lo) ∧ wx.cell? ⟨p, 1, none⟩ = some (.int .i64 a.hi)) ∧ (wx.cell? ⟨q, 0, none⟩ = some (.int .i64 b.lo) ∧ wx.cell? ⟨q, 1, none⟩ = some (.int .i64 b.hi)) ∧ Below W.heap.size W wx
set_option linter.unusedVariables false in
set_option maxRecDepth 100000 in
set_option maxHeartbeats 12800000 in
theorem IntervalMonotone_any (k l m n i j x : Int) (w : World) (k1 : -9223372036854775808 ≤ k) (k2 : k ≤ 9223372036854775807) (l1 : -9223372036854775808 ≤ l) (l2 : l ≤ 9223372036854775807) (m1 : -9223372036854775808 ≤ m) (m2 : m ≤ 9223372036854775807) (n1 : -9223372036854775808 ≤ n) (n2 : n ≤ 9223372036854775807)
    (i1 : -9223372036854775808 ≤ i) (i2 : i ≤ 9223372036854775807) (j1 : -9223372036854775808 ≤ j) (j2 : j ≤ 9223372036854775807) (x1 : -9223372036854775808 ≤ x) (x2 : x ≤ 9223372036854775807) :
    Calls Try.prog 7 #[ .int .i64 k, .int .i64 l, .int .i64 m, .int .i64 n, .int .i64 i, .int .i64 j, .int .i64 x ] w fun e w' => e = .returned (.bool true) ∧ Below w.heap.size w w' := by
  go_enter Try.func7, Try.ntmps7
  go_wp2_with fail
  go_at_call 11
  refine (Interval_any k l _ k1 k2 l1 l2).mono ?_
  rintro e w1 ⟨c, hc, rfl, hb1⟩
  go_wp2_with fail
  go_at_call 11
  refine (Interval_any m n _ m1 m2 n1 n2).mono ?_
  rintro e w2 ⟨d, hd, rfl, hb2⟩
  have HB := Lib.hid (below_next hb2 hb1)
  have HC := Lib.hid hc
  have HD := Lib.hid hd
  clear hb1 hb2 hc hd
  go_wp2_with fail
  obtain ⟨W, hW⟩ : ∃ W : World, W = (w2.alloc (.cells #[.int .i64 c.lo, .int .i64 c.hi] 23)).alloc (.cells #[.int .i64 d.lo, .int .i64 d.hi] 23) := ⟨_, rfl⟩
  have q1 : W.cell? ⟨w2.heap.size, 0, none⟩ = some (.int .i64 c.lo) := by rw [hW]; go_simp
  have q2 : W.cell? ⟨w2.heap.size, 1, none⟩ = some (.int .i64 c.hi) := by rw [hW]; go_simp
  have q3 : W.cell? ⟨w2.heap.size + 1, 0, none⟩ = some (.int .i64 d.lo) := by rw [hW]; go_simp
  have q4 : W.cell? ⟨w2.heap.size + 1, 1, none⟩ = some (.int .i64 d.hi) := by rw [hW]; go_simp
  have g1 : ∀ w', Below W.heap.size W w' → w'.cell? ⟨w2.heap.size, 0, none⟩ = some (.int .i64 c.lo) := fun w' h => cell_keep h q1
  have g2 : ∀ w', Below W.heap.size W w' → w'.cell? ⟨w2.heap.size, 1, none⟩ = some (.int .i64 c.hi) := fun w' h => cell_keep h q2
  have g3 : ∀ w', Below W.heap.size W w' → w'.cell? ⟨w2.heap.size + 1, 0, none⟩ = some (.int .i64 d.lo) := fun w' h => cell_keep h q3
  have g4 : ∀ w', Below W.heap.size W w' → w'.cell? ⟨w2.heap.size + 1, 1, none⟩ = some (.int .i64 d.hi) := fun w' h => cell_keep h q4
  have HW : Below w.heap.size w W := by rw [hW]; exact (HB.out.alloc HB.out.size _).alloc (by have := HB.out.size; simp; omega) _
  have HH := Lib.hid HW
  rw [← hW]
  clear q1 q2 q3 q4 HW hW
  go_cut [17, 18] (Parts c d W)
  case first =>
    go_region_held3 (fun w' => Below W.heap.size W w') (repeat (first | assumption | exact Hid.out (by assumption) | exact below_next hb (by assumption) | exact Below.refl _ _ | refine Below.drew ?_ | refine below_alloc ?_ _ | refine Below.setCell ?_ (by (try simp) <;> omega) _)) ((go_at_call 20; (with_reducible refine (Part_any _ _ _ _ ?_ (by omega) (by omega) (by omega) (by omega)).mono ?_); (first | exact HC.out | exact HD.out); rintro e w' ⟨a, ha, rfl, hb⟩; (first | (have hA : Within a c := ha) | (have hB : Within a d := ha)); have hz := hb.size; (try simp at hz); (try have hy := Nat.lt_of_succ_le hz); (try have hy2 := Nat.lt_of_succ_lt hy); (try have hyA : W.heap.size < w'.heap.size := by omega); (try have hyB : W.heap.size + 1 < w'.heap.size := by omega); have hH := Lib.hid (below_next hb (show Below W.heap.size W _ by assumption)); obtain ⟨hc, hf⟩ := bcell hb))
    all_goals
      go_wp2_with fail
      go_meet
      refine ⟨_, _, _, _, rfl, rfl, ⟨hA, hB⟩, ⟨?_, ?_⟩, ⟨?_, ?_⟩, ?_⟩
      · go_simp; try (refine World.cell?_setCell_same' _ _ _ ?_; go_simp)
      · go_simp; try (refine World.cell?_setCell_same' _ _ _ ?_; go_simp)
      · go_simp; try (refine World.cell?_setCell_same' _ _ _ ?_; go_simp)
      · go_simp; try (refine World.cell?_setCell_same' _ _ _ ?_; go_simp)
      repeat (first | assumption | exact Hid.out (by assumption) | refine below_alloc ?_ _ | refine Below.setCell ?_ (by (try simp) <;> omega) _)
  case rest =>
    obtain ⟨p, q, a, b, rfl, rfl, ⟨ha, hb⟩, ⟨g5, g6⟩, ⟨g7, g8⟩, hbel⟩ := hcut
    have f1 : ∀ w', Below wc.heap.size wc w' → w'.cell? ⟨w2.heap.size, 0, none⟩ = some (.int .i64 c.lo) := fun w' h => cell_keep h (g1 _ hbel)
    have f2 : ∀ w', Below wc.heap.size wc w' → w'.cell? ⟨w2.heap.size, 1, none⟩ = some (.int .i64 c.hi) := fun w' h => cell_keep h (g2 _ hbel)
    have f3 : ∀ w', Below wc.heap.size wc w' → w'.cell? ⟨w2.heap.size + 1, 0, none⟩ = some (.int .i64 d.lo) := fun w' h => cell_keep h (g3 _ hbel)
    have f4 : ∀ w', Below wc.heap.size wc w' → w'.cell? ⟨w2.heap.size + 1, 1, none⟩ = some (.int .i64 d.hi) := fun w' h => cell_keep h (g4 _ hbel)
    have f5 : ∀ w', Below wc.heap.size wc w' → w'.cell? ⟨p, 0, none⟩ = some (.int .i64 a.lo) := fun w' h => cell_keep h g5
    have f6 : ∀ w', Below wc.heap.size wc w' → w'.cell? ⟨p, 1, none⟩ = some (.int .i64 a.hi) := fun w' h => cell_keep h g6
    have f7 : ∀ w', Below wc.heap.size wc w' → w'.cell? ⟨q, 0, none⟩ = some (.int .i64 b.lo) := fun w' h => cell_keep h g7
    have f8 : ∀ w', Below wc.heap.size wc w' → w'.cell? ⟨q, 1, none⟩ = some (.int .i64 b.hi) := fun w' h => cell_keep h g8
    have HL := Lib.hid (below_up HH.out hbel)
    have e1 := withinB_true (add_within ha hb)
    have e2 := withinB_true (sub_within ha hb)
    have e3 := withinB_true (mul_within ha hb)
    have e4 := withinB_true (hul_within ha hb)
    have e5 := withinB_true (neg_within ha)
    have e6 := withinB_true (sqr_within ha)
    have e7 := withinB_true (sqt_within ha)
    have e8 := withinB_true (scl_within x ha)
    clear g1 g2 g3 g4 g5 g6 g7 g8 hbel ha hb
    go_wp2_with fail
    go_region_held3 (fun w' => Below wc.heap.size wc w') (first | exact below_next hb2 (by assumption) | exact (Below.refl _ _).drew | exact Below.drew (by assumption)) (first | (go_at_call 22; refine (Add_any _ _ _).mono ?_; rintro e w' ⟨rfl, hb2⟩) | (go_at_call 23; refine (Sub_any _ _ _).mono ?_; rintro e w' ⟨rfl, hb2⟩) | (go_at_call 24; refine (Mul_any _ _ _).mono ?_; rintro e w' ⟨rfl, hb2⟩) | (go_at_call 30; refine (Hull_any _ _ _).mono ?_; rintro e w' ⟨rfl, hb2⟩) | (go_at_call 29; refine (Within_any _ _ _).mono ?_; rintro e w' ⟨rfl, hb2⟩))
    go_wp2_with fail
    go_region_held3 (fun w' => Below wc.heap.size wc w') (first | exact below_next hb2 (by assumption) | exact (Below.refl _ _).drew | exact Below.drew (by assumption)) (first | (go_at_call 12; refine (ivAwake_any _).mono ?_; rintro e w' ⟨rfl, hb2⟩) | (go_at_call 28; refine (Neg_any _ _).mono ?_; rintro e w' ⟨rfl, hb2⟩) | (go_at_call 27; refine (Square_any _ _).mono ?_; rintro e w' ⟨rfl, hb2⟩) | (go_at_call 31; refine (Sqrt_any _ _).mono ?_; rintro e w' ⟨rfl, hb2⟩) | (go_at_call 32; refine (Scale_any _ _ _).mono ?_; rintro e w' ⟨rfl, hb2⟩) | (go_at_call 29; refine (Within_any _ _ _).mono ?_; rintro e w' ⟨rfl, hb2⟩))
    go_wp2
    go_ret
    exact ⟨rfl, below_up HL.out (by assumption)⟩
end Go.Proofs.Ytgjeljbolhhphaa
