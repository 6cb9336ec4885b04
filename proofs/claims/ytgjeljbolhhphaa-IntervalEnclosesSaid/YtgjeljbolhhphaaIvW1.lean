/- Proved: statements of layer 2 return true. Conditions: the arguments are of their types. -/
import Derived.Test.YtgjeljbolhhphaaIvM
import Derived.Test.YtgjeljbolhhphaaIvO
namespace Go.Proofs.Ytgjeljbolhhphaa
open Go.RowKit
/-- A cell that is there holds what it held, behind a call that turns nothing of what was there. -/
theorem cell_keep {W W' : World} (hb : Below W.heap.size W W') {p : Addr} {u : Value} (h : W.cell? p = some u) : W'.cell? p = some u := by
  rw [hb.cell (World.block_lt_of_cell? W p h)]
  exact h
theorem keep1 {w W W' : World} {p q : Addr} {u v : Value} (h : W.cell? p = some u ∧ W.cell? q = some v ∧ Below w.heap.size w W) (hb : Below W.heap.size W W') :
    W'.cell? p = some u ∧ W'.cell? q = some v ∧ Below w.heap.size w W' := ⟨cell_keep hb h.1, cell_keep hb h.2.1, below_next hb h.2.2⟩
theorem keep2 {w W W' : World} {p q r s : Addr} {u v x y : Value} (h : (W.cell? p = some u ∧ W.cell? q = some v) ∧ (W.cell? r = some x ∧ W.cell? s = some y) ∧ Below w.heap.size w W) (hb : Below W.heap.size W W') :
    (W'.cell? p = some u ∧ W'.cell? q = some v) ∧ (W'.cell? r = some x ∧ W'.cell? s = some y) ∧ Below w.heap.size w W' :=
  ⟨⟨cell_keep hb h.1.1, cell_keep hb h.1.2⟩, ⟨cell_keep hb h.2.1.1, cell_keep hb h.2.1.2⟩, below_next hb h.2.2⟩
theorem ivAwake_any (w : World) :
    Calls Try.prog 12 #[ ] w fun e w' => e = .returned (.bool true) ∧ Below w.heap.size w w' := by
  have e1 : mulI ⟨-3, 5⟩ ⟨65536, 131072⟩ = ⟨-6, 10⟩ := Iv.ext' (by decide) (by decide)
  have e2 : addI (ofI 2) (ofI 3) = ofI 5 := Iv.ext' (by decide) (by decide)
  go_enter Try.func12, Try.ntmps12
  go_wp2_with (first | (go_at_call 24; refine (Mul_any ⟨_, _⟩ ⟨_, _⟩ _).mono ?_; rintro e w' ⟨rfl, hb2⟩; first | ((first | replace hb := below_next hb2 hb | replace hb := below_next hb2 (below_drewN hb) | replace hb := below_next hb2 (below_alloc hb _) | replace hb := below_next hb2 (below_drewN (below_alloc hb _)) | replace hb := below_next hb2 (below_alloc (below_drewN hb) _) | replace hb := below_next hb2 (below_alloc (below_alloc hb _) _)); clear hb2 hc hf; obtain ⟨hc, hf⟩ := bcell hb) | (have hb := hb2; clear hb2; obtain ⟨hc, hf⟩ := bcell hb)) | (go_at_call 14; refine (Of_any _ _).mono ?_; rintro e w' ⟨rfl, hb2⟩; first | ((first | replace hb := below_next hb2 hb | replace hb := below_next hb2 (below_drewN hb) | replace hb := below_next hb2 (below_alloc hb _) | replace hb := below_next hb2 (below_drewN (below_alloc hb _)) | replace hb := below_next hb2 (below_alloc (below_drewN hb) _) | replace hb := below_next hb2 (below_alloc (below_alloc hb _) _)); clear hb2 hc hf; obtain ⟨hc, hf⟩ := bcell hb) | (have hb := hb2; clear hb2; obtain ⟨hc, hf⟩ := bcell hb)) | (go_at_call 22; refine (Add_any _ _ _).mono ?_; rintro e w' ⟨rfl, hb2⟩; first | ((first | replace hb := below_next hb2 hb | replace hb := below_next hb2 (below_drewN hb) | replace hb := below_next hb2 (below_alloc hb _) | replace hb := below_next hb2 (below_drewN (below_alloc hb _)) | replace hb := below_next hb2 (below_alloc (below_drewN hb) _) | replace hb := below_next hb2 (below_alloc (below_alloc hb _) _)); clear hb2 hc hf; obtain ⟨hc, hf⟩ := bcell hb) | (have hb := hb2; clear hb2; obtain ⟨hc, hf⟩ := bcell hb)))
  go_ret
  exact ⟨rfl, by (repeat (first | exact Below.refl _ _ | (refine below_up ?_ hb; clear hb hc hf) | refine Below.setCell ?_ (by (try simp) <;> omega) _ | refine Below.alloc ?_ (by (try simp) <;> omega) _ | refine below_drewN ?_ | refine Below.drew ?_))⟩
set_option linter.unusedVariables false in
set_option maxHeartbeats 3200000 in
theorem IntervalUnits_any (k l : Int) (w : World) (k1 : -9223372036854775808 ≤ k) (k2 : k ≤ 9223372036854775807) (l1 : -9223372036854775808 ≤ l) (l2 : l ≤ 9223372036854775807) :
    Calls Try.prog 8 #[ .int .i64 k, .int .i64 l ] w fun e w' => e = .returned (.bool true) ∧ Below w.heap.size w w' := by
  go_enter Try.func8, Try.ntmps8
  go_wp2_with fail
  go_at_call 11
  refine (Interval_any k l _ k1 k2 l1 l2).mono ?_
  rintro e w1 ⟨a, ha, rfl, hb⟩
  have HB := Lib.hid hb
  clear hb
  have e1 := mul_one_r ha
  have e2 := mul_one_l ha
  have e3 := add_zero_I ha
  have e4 := hasB_true (sub_self_I ha)
  have e5 := neg_neg_I ha
  have e6 := withinB_true (sqr_in_mul ha)
  have e7 := scl_one_I ha
  clear ha
  have h0 : w1.heap.size ≥ w.heap.size := HB.out.size
  go_wp2_with fail
  go_region_held3 (fun w' => w'.cell? ⟨w1.heap.size, 0, none⟩ = some (.int .i64 a.lo) ∧ w'.cell? ⟨w1.heap.size, 1, none⟩ = some (.int .i64 a.hi) ∧ Below w.heap.size w w') (first | exact keep1 (by assumption) hb2 | exact ⟨by go_simp, by go_simp, (HB.out.alloc h0 _).drew⟩) (first | (go_at_call 12; refine (ivAwake_any _).mono ?_; rintro e w' ⟨rfl, hb2⟩) | (go_at_call 24; refine (Mul_any _ _ _).mono ?_; rintro e w' ⟨rfl, hb2⟩) | (go_at_call 14; refine (Of_any _ _).mono ?_; rintro e w' ⟨rfl, hb2⟩) | (go_at_call 22; refine (Add_any _ _ _).mono ?_; rintro e w' ⟨rfl, hb2⟩) | (go_at_call 23; refine (Sub_any _ _ _).mono ?_; rintro e w' ⟨rfl, hb2⟩) | (go_at_call 28; refine (Neg_any _ _).mono ?_; rintro e w' ⟨rfl, hb2⟩) | (go_at_call 33; refine (Has_any _ _ _).mono ?_; rintro e w' ⟨rfl, hb2⟩) | (go_at_call 27; refine (Square_any _ _).mono ?_; rintro e w' ⟨rfl, hb2⟩) | (go_at_call 29; refine (Within_any _ _ _).mono ?_; rintro e w' ⟨rfl, hb2⟩) | (go_at_call 32; refine (Scale_any _ _ _).mono ?_; rintro e w' ⟨rfl, hb2⟩))
  go_wp2
  go_ret
  exact ⟨rfl, (‹_ ∧ _ ∧ Below w.heap.size w _› : _ ∧ _ ∧ Below w.heap.size w w').2.2⟩
end Go.Proofs.Ytgjeljbolhhphaa
