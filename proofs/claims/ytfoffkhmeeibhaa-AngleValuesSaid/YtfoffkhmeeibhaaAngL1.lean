/- Proved: statements of layer 3 return true: values, chord, rises; beside it the maker of intervals of angles. Conditions: the arguments are of their types. -/
import Derived.Test.YtfoffkhmeeibhaaAngV2
import Derived.Test.YtfoffkhmeeibhaaAngW
import Derived.Test.YtfoffkhmeeibhaaIvM
import Derived.Test.YtfoffkhmeeibhaaAng6
import Derived.Laws.BitsLemmas
namespace Go.Proofs.Ytfoffkhmeeibhaa
open Go.RowKit

theorem i64_and7 (n : Int) : bits .and .i64 n 7 = n % 8 := by
  have h7 : (BitVec.ofInt 64 7).toNat = 2 ^ 3 - 1 := by decide
  have key : (BitVec.ofInt 64 n &&& BitVec.ofInt 64 7).toNat = (n % ((2 ^ 64 : Nat) : Int)).toNat % 2 ^ 3 := by
    rw [BitVec.toNat_and, BitVec.toNat_ofInt, h7, Nat.and_two_pow_sub_one_eq_mod]
  show IntKind.i64.wrap ((BitVec.ofInt 64 n &&& BitVec.ofInt 64 7).toNat : Nat) = n % 8
  rw [key, IntKind.wrap_i64]
  omega
theorem sin_v0 : sinA 0 = ⟨0, 0⟩ := by rw [sin_q0 (by decide) (by decide)]; exact q_zero
theorem sin_v1 : sinA 16384 = ⟨65536, 65536⟩ := by rw [sin_q0 (by decide) (by decide)]; exact q_top
theorem sin_v2 : sinA 1 = ⟨6, 7⟩ := by rw [sin_q0 (by decide) (by decide)]; exact q_one
theorem anAwake_any (w : World) :
    Calls Try.prog 13 #[ ] w fun e w' => e = .returned (.bool true) ∧ Below w.heap.size w w' := by
  have e1 := sin_v0
  have e2 := sin_v1
  have e3 := sin_v2
  go_enter Try.func13, Try.ntmps13
  go_wp2_with (first | (go_at_call 14; refine (Sin_any _ _).mono ?_; rintro e w' ⟨rfl, hb2⟩; first | ((first | replace hb := below_next hb2 hb | replace hb := below_next hb2 (below_drewN hb) | replace hb := below_next hb2 (below_alloc hb _) | replace hb := below_next hb2 (below_drewN (below_alloc hb _)) | replace hb := below_next hb2 (below_alloc (below_drewN hb) _) | replace hb := below_next hb2 (below_alloc (below_alloc hb _) _)); clear hb2 hc hf; obtain ⟨hc, hf⟩ := bcell hb) | (have hb := hb2; clear hb2; obtain ⟨hc, hf⟩ := bcell hb)))
  go_ret
  exact ⟨rfl, by (repeat (first | exact Below.refl _ _ | (refine below_up ?_ hb; clear hb hc hf) | refine Below.setCell ?_ (by (try simp) <;> omega) _ | refine Below.alloc ?_ (by (try simp) <;> omega) _ | refine below_drewN ?_ | refine Below.drew ?_))⟩
theorem IvAt.at_new {V : World} {b : Nat} {x : Iv} (hb : V.heap.size = b) : IvAt (V.alloc (.cells #[.int .i64 x.lo, .int .i64 x.hi] 25)) b x := by subst hb; exact heap_alloc_new _ _
/-- An interval of angles from near 0 on, at most 140,000 units wide. -/
def Arc (a : Iv) : Prop := -65536 ≤ a.lo ∧ a.lo ≤ 131072 ∧ a.lo ≤ a.hi ∧ a.hi ≤ a.lo + 140000
theorem Arc.valid {a : Iv} (h : Arc a) : Valid a := by obtain ⟨h1, h2, h3, h4⟩ := h; exact ⟨by omega, h3, by omega⟩
def ArcI (w : World) (e : Ending) (w' : World) : Prop := ∃ a : Iv, Arc a ∧ e = .returned (.agg #[.int .i64 a.lo, .int .i64 a.hi]) ∧ Below w.heap.size w w'
set_option maxHeartbeats 6400000 in
theorem arc_any (x u : Int) (w : World) (x1 : -9223372036854775808 ≤ x) (x2 : x ≤ 9223372036854775807) (u1 : -9223372036854775808 ≤ u) (u2 : u ≤ 9223372036854775807) :
    Calls Try.prog 18 #[ .int .i64 x, .int .i64 u ] w (ArcI w) := by
  obtain ⟨m, hm⟩ : ∃ m, x % 196608 = m := ⟨_, rfl⟩
  have m0 : 0 ≤ m := by omega
  have m1 : m < 196608 := by omega
  have hj : u % 8 = 0 ∨ u % 8 = 1 ∨ u % 8 = 2 ∨ u % 8 = 3 ∨ u % 8 = 4 ∨ u % 8 = 5 ∨ u % 8 = 6 ∨ u % 8 = 7 := by omega
  have hb := i64_and7 u
  rcases hj with h | h | h | h | h | h | h | h
  · rw [h] at hb
    clear h
    obtain ⟨k, hk⟩ : ∃ k, u / 8 % 1 = k := ⟨_, rfl⟩
    have k0 : 0 ≤ k := by omega
    have k1 : k < 1 := by omega
    have hi : ∀ w, (Instr.index 44 (.agg #[.int .i64 1, .int .i64 9, .int .i64 300, .int .i64 5000, .int .i64 20000, .int .i64 40000, .int .i64 66000, .int .i64 140000]) (.int .i64 0)).run Try.prog w = .ok (.int .i64 1) w := fun _ => by kernel_rfl
    go_enter Try.func18, Try.ntmps18
    go_wp2_with (first | (go_at_call 12; refine (Round_any _ _ _ (by decide) (by decide) (by omega) (by omega)).mono ?_; rintro e w' ⟨rfl, rfl⟩))
    exact bodyPost_ret (v := .agg #[.int .i64 (m - 65536), .int .i64 (m - 65536 + k)]) (by simp [results, Try.results18, go_sem]) rfl ⟨⟨_, _⟩, ⟨by dsimp only; omega, by dsimp only; omega, by dsimp only; omega, by dsimp only; omega⟩, rfl, by (repeat (first | exact Below.refl _ _ | (refine below_up ?_ hb; clear hb hc hf) | refine Below.setCell ?_ (by (try simp) <;> omega) _ | refine Below.alloc ?_ (by (try simp) <;> omega) _ | refine below_drewN ?_ | refine Below.drew ?_))⟩
  · rw [h] at hb
    clear h
    obtain ⟨k, hk⟩ : ∃ k, u / 8 % 9 = k := ⟨_, rfl⟩
    have k0 : 0 ≤ k := by omega
    have k1 : k < 9 := by omega
    have hi : ∀ w, (Instr.index 44 (.agg #[.int .i64 1, .int .i64 9, .int .i64 300, .int .i64 5000, .int .i64 20000, .int .i64 40000, .int .i64 66000, .int .i64 140000]) (.int .i64 1)).run Try.prog w = .ok (.int .i64 9) w := fun _ => by kernel_rfl
    go_enter Try.func18, Try.ntmps18
    go_wp2_with (first | (go_at_call 12; refine (Round_any _ _ _ (by decide) (by decide) (by omega) (by omega)).mono ?_; rintro e w' ⟨rfl, rfl⟩))
    exact bodyPost_ret (v := .agg #[.int .i64 (m - 65536), .int .i64 (m - 65536 + k)]) (by simp [results, Try.results18, go_sem]) rfl ⟨⟨_, _⟩, ⟨by dsimp only; omega, by dsimp only; omega, by dsimp only; omega, by dsimp only; omega⟩, rfl, by (repeat (first | exact Below.refl _ _ | (refine below_up ?_ hb; clear hb hc hf) | refine Below.setCell ?_ (by (try simp) <;> omega) _ | refine Below.alloc ?_ (by (try simp) <;> omega) _ | refine below_drewN ?_ | refine Below.drew ?_))⟩
  · rw [h] at hb
    clear h
    obtain ⟨k, hk⟩ : ∃ k, u / 8 % 300 = k := ⟨_, rfl⟩
    have k0 : 0 ≤ k := by omega
    have k1 : k < 300 := by omega
    have hi : ∀ w, (Instr.index 44 (.agg #[.int .i64 1, .int .i64 9, .int .i64 300, .int .i64 5000, .int .i64 20000, .int .i64 40000, .int .i64 66000, .int .i64 140000]) (.int .i64 2)).run Try.prog w = .ok (.int .i64 300) w := fun _ => by kernel_rfl
    go_enter Try.func18, Try.ntmps18
    go_wp2_with (first | (go_at_call 12; refine (Round_any _ _ _ (by decide) (by decide) (by omega) (by omega)).mono ?_; rintro e w' ⟨rfl, rfl⟩))
    exact bodyPost_ret (v := .agg #[.int .i64 (m - 65536), .int .i64 (m - 65536 + k)]) (by simp [results, Try.results18, go_sem]) rfl ⟨⟨_, _⟩, ⟨by dsimp only; omega, by dsimp only; omega, by dsimp only; omega, by dsimp only; omega⟩, rfl, by (repeat (first | exact Below.refl _ _ | (refine below_up ?_ hb; clear hb hc hf) | refine Below.setCell ?_ (by (try simp) <;> omega) _ | refine Below.alloc ?_ (by (try simp) <;> omega) _ | refine below_drewN ?_ | refine Below.drew ?_))⟩
  · rw [h] at hb
    clear h
    obtain ⟨k, hk⟩ : ∃ k, u / 8 % 5000 = k := ⟨_, rfl⟩
    have k0 : 0 ≤ k := by omega
    have k1 : k < 5000 := by omega
    have hi : ∀ w, (Instr.index 44 (.agg #[.int .i64 1, .int .i64 9, .int .i64 300, .int .i64 5000, .int .i64 20000, .int .i64 40000, .int .i64 66000, .int .i64 140000]) (.int .i64 3)).run Try.prog w = .ok (.int .i64 5000) w := fun _ => by kernel_rfl
    go_enter Try.func18, Try.ntmps18
    go_wp2_with (first | (go_at_call 12; refine (Round_any _ _ _ (by decide) (by decide) (by omega) (by omega)).mono ?_; rintro e w' ⟨rfl, rfl⟩))
    exact bodyPost_ret (v := .agg #[.int .i64 (m - 65536), .int .i64 (m - 65536 + k)]) (by simp [results, Try.results18, go_sem]) rfl ⟨⟨_, _⟩, ⟨by dsimp only; omega, by dsimp only; omega, by dsimp only; omega, by dsimp only; omega⟩, rfl, by (repeat (first | exact Below.refl _ _ | (refine below_up ?_ hb; clear hb hc hf) | refine Below.setCell ?_ (by (try simp) <;> omega) _ | refine Below.alloc ?_ (by (try simp) <;> omega) _ | refine below_drewN ?_ | refine Below.drew ?_))⟩
  · rw [h] at hb
    clear h
    obtain ⟨k, hk⟩ : ∃ k, u / 8 % 20000 = k := ⟨_, rfl⟩
    have k0 : 0 ≤ k := by omega
    have k1 : k < 20000 := by omega
    have hi : ∀ w, (Instr.index 44 (.agg #[.int .i64 1, .int .i64 9, .int .i64 300, .int .i64 5000, .int .i64 20000, .int .i64 40000, .int .i64 66000, .int .i64 140000]) (.int .i64 4)).run Try.prog w = .ok (.int .i64 20000) w := fun _ => by kernel_rfl
    go_enter Try.func18, Try.ntmps18
    go_wp2_with (first | (go_at_call 12; refine (Round_any _ _ _ (by decide) (by decide) (by omega) (by omega)).mono ?_; rintro e w' ⟨rfl, rfl⟩))
    exact bodyPost_ret (v := .agg #[.int .i64 (m - 65536), .int .i64 (m - 65536 + k)]) (by simp [results, Try.results18, go_sem]) rfl ⟨⟨_, _⟩, ⟨by dsimp only; omega, by dsimp only; omega, by dsimp only; omega, by dsimp only; omega⟩, rfl, by (repeat (first | exact Below.refl _ _ | (refine below_up ?_ hb; clear hb hc hf) | refine Below.setCell ?_ (by (try simp) <;> omega) _ | refine Below.alloc ?_ (by (try simp) <;> omega) _ | refine below_drewN ?_ | refine Below.drew ?_))⟩
  · rw [h] at hb
    clear h
    obtain ⟨k, hk⟩ : ∃ k, u / 8 % 40000 = k := ⟨_, rfl⟩
    have k0 : 0 ≤ k := by omega
    have k1 : k < 40000 := by omega
    have hi : ∀ w, (Instr.index 44 (.agg #[.int .i64 1, .int .i64 9, .int .i64 300, .int .i64 5000, .int .i64 20000, .int .i64 40000, .int .i64 66000, .int .i64 140000]) (.int .i64 5)).run Try.prog w = .ok (.int .i64 40000) w := fun _ => by kernel_rfl
    go_enter Try.func18, Try.ntmps18
    go_wp2_with (first | (go_at_call 12; refine (Round_any _ _ _ (by decide) (by decide) (by omega) (by omega)).mono ?_; rintro e w' ⟨rfl, rfl⟩))
    exact bodyPost_ret (v := .agg #[.int .i64 (m - 65536), .int .i64 (m - 65536 + k)]) (by simp [results, Try.results18, go_sem]) rfl ⟨⟨_, _⟩, ⟨by dsimp only; omega, by dsimp only; omega, by dsimp only; omega, by dsimp only; omega⟩, rfl, by (repeat (first | exact Below.refl _ _ | (refine below_up ?_ hb; clear hb hc hf) | refine Below.setCell ?_ (by (try simp) <;> omega) _ | refine Below.alloc ?_ (by (try simp) <;> omega) _ | refine below_drewN ?_ | refine Below.drew ?_))⟩
  · rw [h] at hb
    clear h
    obtain ⟨k, hk⟩ : ∃ k, u / 8 % 66000 = k := ⟨_, rfl⟩
    have k0 : 0 ≤ k := by omega
    have k1 : k < 66000 := by omega
    have hi : ∀ w, (Instr.index 44 (.agg #[.int .i64 1, .int .i64 9, .int .i64 300, .int .i64 5000, .int .i64 20000, .int .i64 40000, .int .i64 66000, .int .i64 140000]) (.int .i64 6)).run Try.prog w = .ok (.int .i64 66000) w := fun _ => by kernel_rfl
    go_enter Try.func18, Try.ntmps18
    go_wp2_with (first | (go_at_call 12; refine (Round_any _ _ _ (by decide) (by decide) (by omega) (by omega)).mono ?_; rintro e w' ⟨rfl, rfl⟩))
    exact bodyPost_ret (v := .agg #[.int .i64 (m - 65536), .int .i64 (m - 65536 + k)]) (by simp [results, Try.results18, go_sem]) rfl ⟨⟨_, _⟩, ⟨by dsimp only; omega, by dsimp only; omega, by dsimp only; omega, by dsimp only; omega⟩, rfl, by (repeat (first | exact Below.refl _ _ | (refine below_up ?_ hb; clear hb hc hf) | refine Below.setCell ?_ (by (try simp) <;> omega) _ | refine Below.alloc ?_ (by (try simp) <;> omega) _ | refine below_drewN ?_ | refine Below.drew ?_))⟩
  · rw [h] at hb
    clear h
    obtain ⟨k, hk⟩ : ∃ k, u / 8 % 140000 = k := ⟨_, rfl⟩
    have k0 : 0 ≤ k := by omega
    have k1 : k < 140000 := by omega
    have hi : ∀ w, (Instr.index 44 (.agg #[.int .i64 1, .int .i64 9, .int .i64 300, .int .i64 5000, .int .i64 20000, .int .i64 40000, .int .i64 66000, .int .i64 140000]) (.int .i64 7)).run Try.prog w = .ok (.int .i64 140000) w := fun _ => by kernel_rfl
    go_enter Try.func18, Try.ntmps18
    go_wp2_with (first | (go_at_call 12; refine (Round_any _ _ _ (by decide) (by decide) (by omega) (by omega)).mono ?_; rintro e w' ⟨rfl, rfl⟩))
    exact bodyPost_ret (v := .agg #[.int .i64 (m - 65536), .int .i64 (m - 65536 + k)]) (by simp [results, Try.results18, go_sem]) rfl ⟨⟨_, _⟩, ⟨by dsimp only; omega, by dsimp only; omega, by dsimp only; omega, by dsimp only; omega⟩, rfl, by (repeat (first | exact Below.refl _ _ | (refine below_up ?_ hb; clear hb hc hf) | refine Below.setCell ?_ (by (try simp) <;> omega) _ | refine Below.alloc ?_ (by (try simp) <;> omega) _ | refine below_drewN ?_ | refine Below.drew ?_))⟩
set_option maxHeartbeats 3200000 in
theorem AngleValues_any (a x : Int) (w : World) (x1 : -9223372036854775808 ≤ x) (x2 : x ≤ 9223372036854775807) :
    Calls Try.prog 3 #[ .int .i64 a, .int .i64 x ] w fun e w' => e = .returned (.bool true) ∧ Below w.heap.size w w' := by
  go_enter Try.func3, Try.ntmps3
  go_wp2_with (first | (go_at_call 12; refine (Round_any _ _ _ (by decide) (by decide) (by omega) (by omega)).mono ?_; rintro e w' ⟨rfl, rfl⟩) | (go_at_call 13; refine (anAwake_any _).mono ?_; rintro e w' ⟨rfl, hb2⟩; first | ((first | replace hb := below_next hb2 hb | replace hb := below_next hb2 (below_drewN hb) | replace hb := below_next hb2 (below_alloc hb _) | replace hb := below_next hb2 (below_drewN (below_alloc hb _)) | replace hb := below_next hb2 (below_alloc (below_drewN hb) _) | replace hb := below_next hb2 (below_alloc (below_alloc hb _) _)); clear hb2 hc hf; obtain ⟨hc, hf⟩ := bcell hb) | (have hb := hb2; clear hb2; obtain ⟨hc, hf⟩ := bcell hb)) | (go_at_call 14; refine (Sin_any _ _).mono ?_; rintro e w' ⟨rfl, hb2⟩; first | ((first | replace hb := below_next hb2 hb | replace hb := below_next hb2 (below_drewN hb) | replace hb := below_next hb2 (below_alloc hb _) | replace hb := below_next hb2 (below_drewN (below_alloc hb _)) | replace hb := below_next hb2 (below_alloc (below_drewN hb) _) | replace hb := below_next hb2 (below_alloc (below_alloc hb _) _)); clear hb2 hc hf; obtain ⟨hc, hf⟩ := bcell hb) | (have hb := hb2; clear hb2; obtain ⟨hc, hf⟩ := bcell hb)) | (go_at_call 15; refine (rSin_any _ _).mono ?_; rintro e w' ⟨rfl, hb2⟩; first | ((first | replace hb := below_next hb2 hb | replace hb := below_next hb2 (below_drewN hb) | replace hb := below_next hb2 (below_alloc hb _) | replace hb := below_next hb2 (below_drewN (below_alloc hb _)) | replace hb := below_next hb2 (below_alloc (below_drewN hb) _) | replace hb := below_next hb2 (below_alloc (below_alloc hb _) _)); clear hb2 hc hf; obtain ⟨hc, hf⟩ := bcell hb) | (have hb := hb2; clear hb2; obtain ⟨hc, hf⟩ := bcell hb)) | (go_at_call 16; refine (Cos_any _ _).mono ?_; rintro e w' ⟨rfl, hb2⟩; first | ((first | replace hb := below_next hb2 hb | replace hb := below_next hb2 (below_drewN hb) | replace hb := below_next hb2 (below_alloc hb _) | replace hb := below_next hb2 (below_drewN (below_alloc hb _)) | replace hb := below_next hb2 (below_alloc (below_drewN hb) _) | replace hb := below_next hb2 (below_alloc (below_alloc hb _) _)); clear hb2 hc hf; obtain ⟨hc, hf⟩ := bcell hb) | (have hb := hb2; clear hb2; obtain ⟨hc, hf⟩ := bcell hb)) | (go_at_call 17; refine (rCos_any _ _).mono ?_; rintro e w' ⟨rfl, hb2⟩; first | ((first | replace hb := below_next hb2 hb | replace hb := below_next hb2 (below_drewN hb) | replace hb := below_next hb2 (below_alloc hb _) | replace hb := below_next hb2 (below_drewN (below_alloc hb _)) | replace hb := below_next hb2 (below_alloc (below_drewN hb) _) | replace hb := below_next hb2 (below_alloc (below_alloc hb _) _)); clear hb2 hc hf; obtain ⟨hc, hf⟩ := bcell hb) | (have hb := hb2; clear hb2; obtain ⟨hc, hf⟩ := bcell hb)))
  go_ret
  exact ⟨rfl, by (repeat (first | exact Below.refl _ _ | (refine below_up ?_ hb; clear hb hc hf) | refine Below.setCell ?_ (by (try simp) <;> omega) _ | refine Below.alloc ?_ (by (try simp) <;> omega) _ | refine below_drewN ?_ | refine Below.drew ?_))⟩
set_option maxHeartbeats 3200000 in
theorem AngleChord_any (x : Int) (w : World) (x1 : -9223372036854775808 ≤ x) (x2 : x ≤ 9223372036854775807) :
    Calls Try.prog 11 #[ .int .i64 x ] w fun e w' => e = .returned (.bool true) ∧ Below w.heap.size w w' := by
  obtain ⟨r, hr⟩ : ∃ r, x % 16385 = r := ⟨_, rfl⟩
  have r0 : 0 ≤ r := by omega
  have r1 : r ≤ 16384 := by omega
  obtain ⟨e1, e2, e3⟩ := q_chord r0 r1
  obtain ⟨f1, f2, f3, f4⟩ := q_range r0 r1
  rw [← sin_q0 r0 r1] at e1 e2 e3 f1 f2 f3 f4
  go_enter Try.func11, Try.ntmps11
  go_wp2_with (first | (go_at_call 12; refine (Round_any _ _ _ (by decide) (by decide) (by omega) (by omega)).mono ?_; rintro e w' ⟨rfl, rfl⟩))
  refine (Sin_any _ _).mono ?_
  rintro e w1 ⟨rfl, hb1⟩
  obtain ⟨V, hV⟩ : ∃ V : World, V = w1.alloc (.cells #[.int .i64 (sinA r).lo, .int .i64 (sinA r).hi] 25) := ⟨_, rfl⟩
  have s := Lib.hid (show IvAt V w1.heap.size (sinA r) from by rw [hV]; exact IvAt.new _ _)
  have B := Lib.hid (show Below w.heap.size w V from by rw [hV]; exact below_alloc hb1 _)
  clear hb1
  go_wp2_with fail
  rw [← hV]
  clear hV
  refine (anAwake_any _).mono ?_
  rintro e w2 ⟨rfl, hb2⟩
  have s2 := s.out.below hb2
  have B2 := Lib.hid (below_next hb2 B.out)
  have c0 := s2.c0
  have c1 := s2.c1
  clear hb2 s2
  go_wp2_with fail
  go_ret
  exact ⟨rfl, B2.out⟩
set_option maxHeartbeats 3200000 in
theorem AngleRises_any (x : Int) (w : World) (x1 : -9223372036854775808 ≤ x) (x2 : x ≤ 9223372036854775807) :
    Calls Try.prog 7 #[ .int .i64 x ] w fun e w' => e = .returned (.bool true) ∧ Below w.heap.size w w' := by
  obtain ⟨r, hr⟩ : ∃ r, x % 16384 = r := ⟨_, rfl⟩
  have r0 : 0 ≤ r := by omega
  have r1 : r < 16384 := by omega
  obtain ⟨e1, e2⟩ := sin_rises r0 r1
  obtain ⟨e3, e4⟩ := cos_falls r0 r1
  go_enter Try.func7, Try.ntmps7
  go_wp2_with (first | (go_at_call 12; refine (Round_any _ _ _ (by decide) (by decide) (by omega) (by omega)).mono ?_; rintro e w' ⟨rfl, rfl⟩))
  refine (Sin_any _ _).mono ?_
  rintro e w1 ⟨rfl, hb1⟩
  go_wp2_with fail
  refine (Sin_any _ _).mono ?_
  rintro e w2 ⟨rfl, hb2⟩
  obtain ⟨V, hV⟩ : ∃ V : World, V = (w2.alloc (.cells #[.int .i64 (sinA r).lo, .int .i64 (sinA r).hi] 25)).alloc (.cells #[.int .i64 (sinA (r + 1)).lo, .int .i64 (sinA (r + 1)).hi] 25) := ⟨_, rfl⟩
  have s1 := Lib.hid (show IvAt V w2.heap.size (sinA r) from by rw [hV]; exact (IvAt.new _ _).alloc _)
  have s2 := Lib.hid (show IvAt V (w2.heap.size + 1) (sinA (r + 1)) from by rw [hV]; exact IvAt.at_new (by simp))
  have B := Lib.hid (show Below w.heap.size w V from by rw [hV]; exact below_alloc (below_alloc (below_next hb2 hb1) _) _)
  clear hb1 hb2
  go_wp2_with fail
  rw [← hV]
  clear hV
  generalize w2.heap.size = n at *
  refine (Cos_any _ _).mono ?_
  rintro e w3 ⟨rfl, hb3⟩
  go_wp2_with fail
  refine (Cos_any _ _).mono ?_
  rintro e w4 ⟨rfl, hb4⟩
  have hb := below_next hb4 hb3
  obtain ⟨V2, hV⟩ : ∃ V2 : World, V2 = (w4.alloc (.cells #[.int .i64 (cosA r).lo, .int .i64 (cosA r).hi] 25)).alloc (.cells #[.int .i64 (cosA (r + 1)).lo, .int .i64 (cosA (r + 1)).hi] 25) := ⟨_, rfl⟩
  have t1 := Lib.hid (show IvAt V2 n (sinA r) from by rw [hV]; exact ((s1.out.below hb).alloc _).alloc _)
  have t2 := Lib.hid (show IvAt V2 (n + 1) (sinA (r + 1)) from by rw [hV]; exact ((s2.out.below hb).alloc _).alloc _)
  have t3 := Lib.hid (show IvAt V2 w4.heap.size (cosA r) from by rw [hV]; exact (IvAt.new _ _).alloc _)
  have t4 := Lib.hid (show IvAt V2 (w4.heap.size + 1) (cosA (r + 1)) from by rw [hV]; exact IvAt.at_new (by simp))
  have B2 := Lib.hid (show Below w.heap.size w V2 from by rw [hV]; exact below_alloc (below_alloc (below_next hb B.out) _) _)
  clear hb hb3 hb4 s1 s2 B
  go_wp2_with fail
  rw [← hV]
  clear hV
  generalize w4.heap.size = m at *
  refine (anAwake_any _).mono ?_
  rintro e w5 ⟨rfl, hb⟩
  have B3 := Lib.hid (below_next hb B2.out)
  have c1 := (t1.out.below hb).c0
  have c2 := (t1.out.below hb).c1
  have c3 := (t2.out.below hb).c0
  have c4 := (t2.out.below hb).c1
  have c5 := (t3.out.below hb).c0
  have c6 := (t3.out.below hb).c1
  have c7 := (t4.out.below hb).c0
  have c8 := (t4.out.below hb).c1
  clear hb t1 t2 t3 t4 B2
  go_wp2_with fail
  go_ret
  exact ⟨rfl, B3.out⟩
end Go.Proofs.Ytfoffkhmeeibhaa
