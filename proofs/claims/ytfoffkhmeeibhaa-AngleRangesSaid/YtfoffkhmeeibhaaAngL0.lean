/- Proved: helpers of the statements of layer 3: the sanity check; the maker of intervals of angles. Conditions: the arguments are of their types. -/
import Derived.Test.YtfoffkhmeeibhaaAngY
import Derived.Test.YtfoffkhmeeibhaaAngO
import Derived.Test.YtfoffkhmeeibhaaIvK
import Derived.Test.YtfoffkhmeeibhaaAng4
import Derived.Laws.BitsLemmas
namespace Go.Proofs.Ytfoffkhmeeibhaa
open Go.RowKit

theorem i64_and7 (n : Int) : bits .and .i64 n 7 = n % 8 := by
  have h7 : (BitVec.ofInt 64 7).toNat = 2 ^ 3 - 1 := by decide
  have key : (BitVec.ofInt 64 n &&& BitVec.ofInt 64 7).toNat = (n % ((2 ^ 64 : Nat) : Int)).toNat % 2 ^ 3 := by
    rw [BitVec.toNat_and, BitVec.toNat_ofInt, h7, Nat.and_two_pow_sub_one_eq_mod]
  show IntKind.i64.wrap ((BitVec.ofInt 64 n &&& BitVec.ofInt 64 7).toNat : Nat) = n % 8
  rw [key, IntKind.wrap_i64]
  omega
theorem sin_v0 : sinA 0 = ⟨0, 0⟩ := by rw [sin_q0 (by decide) (by decide)]; exact q_zero
theorem sin_v1 : sinA 16384 = ⟨65536, 65536⟩ := by rw [sin_q0 (by decide) (by decide)]; exact q_top
theorem sin_v2 : sinA 1 = ⟨6, 7⟩ := by rw [sin_q0 (by decide) (by decide)]; exact q_one
theorem anAwake_any (w : World) :
    Calls Try.prog 13 #[ ] w fun e w' => e = .returned (.bool true) ∧ Below w.heap.size w w' := by
  have e1 := sin_v0
  have e2 := sin_v1
  have e3 := sin_v2
  go_enter Try.func13, Try.ntmps13
  go_wp2_with (first | (go_at_call 14; refine (Sin_any _ _).mono ?_; rintro e w' ⟨rfl, hb2⟩; first | ((first | replace hb := below_next hb2 hb | replace hb := below_next hb2 (below_drewN hb) | replace hb := below_next hb2 (below_alloc hb _) | replace hb := below_next hb2 (below_drewN (below_alloc hb _)) | replace hb := below_next hb2 (below_alloc (below_drewN hb) _) | replace hb := below_next hb2 (below_alloc (below_alloc hb _) _)); clear hb2 hc hf; obtain ⟨hc, hf⟩ := bcell hb) | (have hb := hb2; clear hb2; obtain ⟨hc, hf⟩ := bcell hb)))
  go_ret
  exact ⟨rfl, by (repeat (first | exact Below.refl _ _ | (refine below_up ?_ hb; clear hb hc hf) | refine Below.setCell ?_ (by (try simp) <;> omega) _ | refine Below.alloc ?_ (by (try simp) <;> omega) _ | refine below_drewN ?_ | refine Below.drew ?_))⟩
/-- An interval of angles from near 0 on, at most 140,000 units wide. -/
def Arc (a : Iv) : Prop := -65536 ≤ a.lo ∧ a.lo ≤ 131072 ∧ a.lo ≤ a.hi ∧ a.hi ≤ a.lo + 140000
theorem Arc.valid {a : Iv} (h : Arc a) : Valid a := by obtain ⟨h1, h2, h3, h4⟩ := h; exact ⟨by omega, h3, by omega⟩
def ArcI (w : World) (e : Ending) (w' : World) : Prop := ∃ a : Iv, Arc a ∧ e = .returned (.agg #[.int .i64 a.lo, .int .i64 a.hi]) ∧ Below w.heap.size w w'
set_option maxHeartbeats 6400000 in
theorem arc_any (x u : Int) (w : World) (x1 : -9223372036854775808 ≤ x) (x2 : x ≤ 9223372036854775807) (u1 : -9223372036854775808 ≤ u) (u2 : u ≤ 9223372036854775807) :
    Calls Try.prog 18 #[ .int .i64 x, .int .i64 u ] w (ArcI w) := by
  obtain ⟨m, hm⟩ : ∃ m, x % 196608 = m := ⟨_, rfl⟩
  have m0 : 0 ≤ m := by omega
  have m1 : m < 196608 := by omega
  have hj : u % 8 = 0 ∨ u % 8 = 1 ∨ u % 8 = 2 ∨ u % 8 = 3 ∨ u % 8 = 4 ∨ u % 8 = 5 ∨ u % 8 = 6 ∨ u % 8 = 7 := by omega
  have hb := i64_and7 u
  rcases hj with h | h | h | h | h | h | h | h
  · rw [h] at hb
    clear h
    obtain ⟨k, hk⟩ : ∃ k, u / 8 % 1 = k := ⟨_, rfl⟩
    have k0 : 0 ≤ k := by omega
    have k1 : k < 1 := by omega
    have hi : ∀ w, (Instr.index 44 (.agg #[.int .i64 1, .int .i64 9, .int .i64 300, .int .i64 5000, .int .i64 20000, .int .i64 40000, .int .i64 66000, .int .i64 140000]) (.int .i64 0)).run Try.prog w = .ok (.int .i64 1) w := fun _ => by kernel_rfl
    go_enter Try.func18, Try.ntmps18
    go_wp2_with (first | (go_at_call 12; refine (Round_any _ _ _ (by decide) (by decide) (by omega) (by omega)).mono ?_; rintro e w' ⟨rfl, rfl⟩))
    exact bodyPost_ret (v := .agg #[.int .i64 (m - 65536), .int .i64 (m - 65536 + k)]) (by simp [results, Try.results18, go_sem]) rfl ⟨⟨_, _⟩, ⟨by dsimp only; omega, by dsimp only; omega, by dsimp only; omega, by dsimp only; omega⟩, rfl, by (repeat (first | exact Below.refl _ _ | (refine below_up ?_ hb; clear hb hc hf) | refine Below.setCell ?_ (by (try simp) <;> omega) _ | refine Below.alloc ?_ (by (try simp) <;> omega) _ | refine below_drewN ?_ | refine Below.drew ?_))⟩
  · rw [h] at hb
    clear h
    obtain ⟨k, hk⟩ : ∃ k, u / 8 % 9 = k := ⟨_, rfl⟩
    have k0 : 0 ≤ k := by omega
    have k1 : k < 9 := by omega
    have hi : ∀ w, (Instr.index 44 (.agg #[.int .i64 1, .int .i64 9, .int .i64 300, .int .i64 5000, .int .i64 20000, .int .i64 40000, .int .i64 66000, .int .i64 140000]) (.int .i64 1)).run Try.prog w = .ok (.int .i64 9) w := fun _ => by kernel_rfl
    go_enter Try.func18, Try.ntmps18
    go_wp2_with (first | (go_at_call 12; refine (Round_any _ _ _ (by decide) (by decide) (by omega) (by omega)).mono ?_; rintro e w' ⟨rfl, rfl⟩))
    exact bodyPost_ret (v := .agg #[.int .i64 (m - 65536), .int .i64 (m - 65536 + k)]) (by simp [results, Try.results18, go_sem]) rfl ⟨⟨_, _⟩, ⟨by dsimp only; omega, by dsimp only; omega, by dsimp only; omega, by dsimp only; omega⟩, rfl, by (repeat (first | exact Below.refl _ _ | (refine below_up ?_ hb; clear hb hc hf) | refine Below.setCell ?_ (by (try simp) <;> omega) _ | refine Below.alloc ?_ (by (try simp) <;> omega) _ | refine below_drewN ?_ | refine Below.drew ?_))⟩
  · rw [h] at hb
    clear h
    obtain ⟨k, hk⟩ : ∃ k, u / 8 % 300 = k := ⟨_, rfl⟩
    have k0 : 0 ≤ k := by omega
    have k1 : k < 300 := by omega
    have hi : ∀ w, (Instr.index 44 (.agg #[.int .i64 1, .int .i64 9, .int .i64 300, .int .i64 5000, .int .i64 20000, .int .i64 40000, .int .i64 66000, .int .i64 140000]) (.int .i64 2)).run Try.prog w = .ok (.int .i64 300) w := fun _ => by kernel_rfl
    go_enter Try.func18, Try.ntmps18
    go_wp2_with (first | (go_at_call 12; refine (Round_any _ _ _ (by decide) (by decide) (by omega) (by omega)).mono ?_; rintro e w' ⟨rfl, rfl⟩))
    exact bodyPost_ret (v := .agg #[.int .i64 (m - 65536), .int .i64 (m - 65536 + k)]) (by simp [results, Try.results18, go_sem]) rfl ⟨⟨_, _⟩, ⟨by dsimp only; omega, by dsimp only; omega, by dsimp only; omega, by dsimp only; omega⟩, rfl, by (repeat (first | exact Below.refl _ _ | (refine below_up ?_ hb; clear hb hc hf) | refine Below.setCell ?_ (by (try simp) <;> omega) _ | refine Below.alloc ?_ (by (try simp) <;> omega) _ | refine below_drewN ?_ | refine Below.drew ?_))⟩
  · rw [h] at hb
    clear h
    obtain ⟨k, hk⟩ : ∃ k, u / 8 % 5000 = k := ⟨_, rfl⟩
    have k0 : 0 ≤ k := by omega
    have k1 : k < 5000 := by omega
    have hi : ∀ w, (Instr.index 44 (.agg #[.int .i64 1, .int .i64 9, .int .i64 300, .int .i64 5000, .int .i64 20000, .int .i64 40000, .int .i64 66000, .int .i64 140000]) (.int .i64 3)).run Try.prog w = .ok (.int .i64 5000) w := fun _ => by kernel_rfl
    go_enter Try.func18, Try.ntmps18
    go_wp2_with (first | (go_at_call 12; refine (Round_any _ _ _ (by decide) (by decide) (by omega) (by omega)).mono ?_; rintro e w' ⟨rfl, rfl⟩))
    exact bodyPost_ret (v := .agg #[.int .i64 (m - 65536), .int .i64 (m - 65536 + k)]) (by simp [results, Try.results18, go_sem]) rfl ⟨⟨_, _⟩, ⟨by dsimp only; omega, by dsimp only; omega, by dsimp only; omega, by dsimp only; omega⟩, rfl, by (repeat (first | exact Below.refl _ _ | (refine below_up ?_ hb; clear hb hc hf) | refine Below.setCell ?_ (by (try simp) <;> omega) _ | refine Below.alloc ?_ (by (try simp) <;> omega) _ | refine below_drewN ?_ | refine Below.drew ?_))⟩
  · rw [h] at hb
    clear h
    obtain ⟨k, hk⟩ : ∃ k, u / 8 % 20000 = k := ⟨_, rfl⟩
    have k0 : 0 ≤ k := by omega
    have k1 : k < 20000 := by omega
    have hi : ∀ w, (Instr.index 44 (.agg #[.int .i64 1, .int .i64 9, .int .i64 300, .int .i64 5000, .int .i64 20000, .int .i64 40000, .int .i64 66000, .int .i64 140000]) (.int .i64 4)).run Try.prog w = .ok (.int .i64 20000) w := fun _ => by kernel_rfl
    go_enter Try.func18, Try.ntmps18
    go_wp2_with (first | (go_at_call 12; refine (Round_any _ _ _ (by decide) (by decide) (by omega) (by omega)).mono ?_; rintro e w' ⟨rfl, rfl⟩))
    exact bodyPost_ret (v := .agg #[.int .i64 (m - 65536), .int .i64 (m - 65536 + k)]) (by simp [results, Try.results18, go_sem]) rfl ⟨⟨_, _⟩, ⟨by dsimp only; omega, by dsimp only; omega, by dsimp only; omega, by dsimp only; omega⟩, rfl, by (repeat (first | exact Below.refl _ _ | (refine below_up ?_ hb; clear hb hc hf) | refine Below.setCell ?_ (by (try simp) <;> omega) _ | refine Below.alloc ?_ (by (try simp) <;> omega) _ | refine below_drewN ?_ | refine Below.drew ?_))⟩
  · rw [h] at hb
    clear h
    obtain ⟨k, hk⟩ : ∃ k, u / 8 % 40000 = k := ⟨_, rfl⟩
    have k0 : 0 ≤ k := by omega
    have k1 : k < 40000 := by omega
    have hi : ∀ w, (Instr.index 44 (.agg #[.int .i64 1, .int .i64 9, .int .i64 300, .int .i64 5000, .int .i64 20000, .int .i64 40000, .int .i64 66000, .int .i64 140000]) (.int .i64 5)).run Try.prog w = .ok (.int .i64 40000) w := fun _ => by kernel_rfl
    go_enter Try.func18, Try.ntmps18
    go_wp2_with (first | (go_at_call 12; refine (Round_any _ _ _ (by decide) (by decide) (by omega) (by omega)).mono ?_; rintro e w' ⟨rfl, rfl⟩))
    exact bodyPost_ret (v := .agg #[.int .i64 (m - 65536), .int .i64 (m - 65536 + k)]) (by simp [results, Try.results18, go_sem]) rfl ⟨⟨_, _⟩, ⟨by dsimp only; omega, by dsimp only; omega, by dsimp only; omega, by dsimp only; omega⟩, rfl, by (repeat (first | exact Below.refl _ _ | (refine below_up ?_ hb; clear hb hc hf) | refine Below.setCell ?_ (by (try simp) <;> omega) _ | refine Below.alloc ?_ (by (try simp) <;> omega) _ | refine below_drewN ?_ | refine Below.drew ?_))⟩
  · rw [h] at hb
    clear h
    obtain ⟨k, hk⟩ : ∃ k, u / 8 % 66000 = k := ⟨_, rfl⟩
    have k0 : 0 ≤ k := by omega
    have k1 : k < 66000 := by omega
    have hi : ∀ w, (Instr.index 44 (.agg #[.int .i64 1, .int .i64 9, .int .i64 300, .int .i64 5000, .int .i64 20000, .int .i64 40000, .int .i64 66000, .int .i64 140000]) (.int .i64 6)).run Try.prog w = .ok (.int .i64 66000) w := fun _ => by kernel_rfl
    go_enter Try.func18, Try.ntmps18
    go_wp2_with (first | (go_at_call 12; refine (Round_any _ _ _ (by decide) (by decide) (by omega) (by omega)).mono ?_; rintro e w' ⟨rfl, rfl⟩))
    exact bodyPost_ret (v := .agg #[.int .i64 (m - 65536), .int .i64 (m - 65536 + k)]) (by simp [results, Try.results18, go_sem]) rfl ⟨⟨_, _⟩, ⟨by dsimp only; omega, by dsimp only; omega, by dsimp only; omega, by dsimp only; omega⟩, rfl, by (repeat (first | exact Below.refl _ _ | (refine below_up ?_ hb; clear hb hc hf) | refine Below.setCell ?_ (by (try simp) <;> omega) _ | refine Below.alloc ?_ (by (try simp) <;> omega) _ | refine below_drewN ?_ | refine Below.drew ?_))⟩
  · rw [h] at hb
    clear h
    obtain ⟨k, hk⟩ : ∃ k, u / 8 % 140000 = k := ⟨_, rfl⟩
    have k0 : 0 ≤ k := by omega
    have k1 : k < 140000 := by omega
    have hi : ∀ w, (Instr.index 44 (.agg #[.int .i64 1, .int .i64 9, .int .i64 300, .int .i64 5000, .int .i64 20000, .int .i64 40000, .int .i64 66000, .int .i64 140000]) (.int .i64 7)).run Try.prog w = .ok (.int .i64 140000) w := fun _ => by kernel_rfl
    go_enter Try.func18, Try.ntmps18
    go_wp2_with (first | (go_at_call 12; refine (Round_any _ _ _ (by decide) (by decide) (by omega) (by omega)).mono ?_; rintro e w' ⟨rfl, rfl⟩))
    exact bodyPost_ret (v := .agg #[.int .i64 (m - 65536), .int .i64 (m - 65536 + k)]) (by simp [results, Try.results18, go_sem]) rfl ⟨⟨_, _⟩, ⟨by dsimp only; omega, by dsimp only; omega, by dsimp only; omega, by dsimp only; omega⟩, rfl, by (repeat (first | exact Below.refl _ _ | (refine below_up ?_ hb; clear hb hc hf) | refine Below.setCell ?_ (by (try simp) <;> omega) _ | refine Below.alloc ?_ (by (try simp) <;> omega) _ | refine below_drewN ?_ | refine Below.drew ?_))⟩
end Go.Proofs.Ytfoffkhmeeibhaa
