/- Proved: the makers of intervals give valid intervals, and turn nothing that was there before. Conditions: as each theorem states. -/
import Derived.Test.YtdplgiccpjlelaaIvK
namespace Go.Proofs.Ytdplgiccpjlelaa
open Go.RowKit
/-- What comes back is a valid interval, and nothing that was there has turned. -/
def MadeI (w : World) (e : Ending) (w' : World) : Prop := ∃ a : Iv, Valid a ∧ e = .returned (.agg #[.int .i64 a.lo, .int .i64 a.hi]) ∧ Below w.heap.size w w'
theorem quiet_add_eq {P : Program} {f : FuncId} {args : Array Value} {w : World} {a n : Nat} {v : Value}
    (h : Calls P f args (w.drewN (a + n)) fun e w' => e = .returned v ∧ w.drewN (a + n) = w') : Calls P f args (w.drewN (a + n)) fun e w'' => e = .returned v ∧ ∃ m, w'' = w.drewN (a + m) :=
  h.mono fun _ _ hh => ⟨hh.1, n, hh.2.symm⟩
theorem two_pow_bd {s : Int} (h0 : 0 ≤ s) (h1 : s < 27) : 16 ≤ (2 : Int) ^ (4 + s).toNat ∧ (2 : Int) ^ (4 + s).toNat ≤ 1073741824 := by
  obtain ⟨n, rfl⟩ := Int.eq_ofNat_of_zero_le h0
  have e : (4 + (n : Int)).toNat = 4 + n := by omega
  have hn : n ≤ 26 := by omega
  have h2 : 2 ^ (4 + n) ≤ 2 ^ 30 := Nat.pow_le_pow_right (by decide) (by omega)
  have h3 : 2 ^ 4 ≤ 2 ^ (4 + n) := Nat.pow_le_pow_right (by decide) (by omega)
  have h4 : ((2 ^ (4 + n) : Nat) : Int) = (2 : Int) ^ (4 + n) := by simp
  rw [e, ← h4]
  omega
theorem valid_mm (x y : Int) : Valid ⟨min (clampI x) (clampI y), max (clampI x) (clampI y)⟩ := by
  have := clamp_lo x
  have := clamp_hi x
  have := clamp_lo y
  have := clamp_hi y
  unfold Valid
  simp only
  omega
theorem made_of {w w' : World} {x y : Int} (h : Below w.heap.size w w') : MadeI w (.returned (.agg #[.int .i64 (min (clampI x) (clampI y)), .int .i64 (max (clampI x) (clampI y))])) w' := ⟨_, valid_mm x y, rfl, h⟩
/-- What comes back is a valid interval within a, and nothing that was there has turned. -/
def PartI (a : Iv) (w : World) (e : Ending) (w' : World) : Prop := ∃ p : Iv, Within p a ∧ e = .returned (.agg #[.int .i64 p.lo, .int .i64 p.hi]) ∧ Below w.heap.size w w'
theorem part_one {a : Iv} {x : Int} (h : Valid a) (h1 : a.lo ≤ x) (h2 : x ≤ a.hi) : Within ⟨x, x⟩ a := by
  unfold Within Valid at *
  simp only
  omega
theorem part_mm {a : Iv} {x y : Int} (h : Valid a) (h1 : a.lo ≤ x) (h2 : x ≤ a.hi) (h3 : a.lo ≤ y) (h4 : y ≤ a.hi) : Within ⟨min x y, max x y⟩ a := by
  unfold Within Valid at *
  simp only
  omega
theorem Part_any (a : Iv) (m n : Int) (w : World) (h : Valid a) (m1 : -9223372036854775808 ≤ m) (m2 : m ≤ 9223372036854775807) (n1 : -9223372036854775808 ≤ n) (n2 : n ≤ 9223372036854775807) :
    Calls Try.prog 26 #[ .agg #[.int .i64 a.lo, .int .i64 a.hi], .int .i64 m, .int .i64 n ] w (PartI a w) := by
  have h' := Lib.hid h
  obtain ⟨a1, a2, a3⟩ := h
  have k1 := Int.emod_nonneg m (show a.hi - a.lo + 1 ≠ 0 by omega)
  have k2 := Int.emod_lt_of_pos m (show 0 < a.hi - a.lo + 1 by omega)
  have k3 := Int.emod_nonneg (n / 2) (show a.hi - a.lo + 1 ≠ 0 by omega)
  have k4 := Int.emod_lt_of_pos (n / 2) (show 0 < a.hi - a.lo + 1 by omega)
  go_enter Try.func26, Try.ntmps26
  go_wp2_with fail
  go_quiet ((go_at_call 12; exact quiet_eq (Round_any _ _ _ (by omega) (by omega) (by omega) (by omega))))
  go_wp2_with fail
  · exact bodyPost_ret (v := .agg #[.int .i64 (a.lo + m % (a.hi - a.lo + 1)), .int .i64 (a.lo + m % (a.hi - a.lo + 1))]) (by simp [results, Try.results26, go_sem]) rfl ⟨⟨a.lo + m % (a.hi - a.lo + 1), a.lo + m % (a.hi - a.lo + 1)⟩, part_one h'.out (by omega) (by omega), rfl, by (repeat (first | exact Below.refl _ _ | (refine below_up ?_ hb; clear hb hc hf) | refine Below.setCell ?_ (by (try simp) <;> omega) _ | refine Below.alloc ?_ (by (try simp) <;> omega) _ | refine below_drewN ?_ | refine Below.drew ?_))⟩
  · go_quiet ((go_at_call 12; exact quiet_add_eq (Round_any _ _ _ (by omega) (by omega) (by omega) (by omega))))
    go_wp2
    exact bodyPost_ret (v := .agg #[.int .i64 (min (a.lo + m % (a.hi - a.lo + 1)) (a.lo + n / 2 % (a.hi - a.lo + 1))), .int .i64 (max (a.lo + m % (a.hi - a.lo + 1)) (a.lo + n / 2 % (a.hi - a.lo + 1)))]) (by simp [results, Try.results26, go_sem]) rfl ⟨⟨min (a.lo + m % (a.hi - a.lo + 1)) (a.lo + n / 2 % (a.hi - a.lo + 1)), max (a.lo + m % (a.hi - a.lo + 1)) (a.lo + n / 2 % (a.hi - a.lo + 1))⟩, part_mm h'.out (by omega) (by omega) (by omega) (by omega), rfl, by (repeat (first | exact Below.refl _ _ | (refine below_up ?_ hb; clear hb hc hf) | refine Below.setCell ?_ (by (try simp) <;> omega) _ | refine Below.alloc ?_ (by (try simp) <;> omega) _ | refine below_drewN ?_ | refine Below.drew ?_))⟩
end Go.Proofs.Ytdplgiccpjlelaa
