/- Proved: the reference's small functions of robots and scenes return what is stated here. Conditions: as each theorem states. -/
import Derived.Test.YtpaiapcnoifpmaaDoorSy4
import Derived.Test.YtpaiapcnoifpmaaDoorTk6
namespace Go.Proofs.YtpaiapcnoifpmaaDoor
open Go.RowKit

/-- A word of a description. -/
def ArgT (b : ByteArray) : Prop := (1 ≤ b.size ∧ b.size ≤ 20) ∧ ∀ c ∈ bts b, wb c = true
theorem wb_dig {c : Nat} (h : isd c = true) : wb c = true := by
  unfold isd at h
  simp at h
  exact wb_iff.2 (by omega)
theorem dec_arg {n j : Nat} {b : ByteArray} (h : DecLen n 1 j) (hb : bts b = decD j n) (hn : n ≤ 1000000000000000) : ArgT b := by
  have hs : b.size = j := dec_size hb
  have hj : j ≤ 16 := by
    rcases h.2.2 with h1 | ⟨h1, h2⟩
    · omega
    · apply Decidable.byContradiction
      intro hc
      have : 10 ^ 16 ≤ 10 ^ (j - 1) := Nat.pow_le_pow_right (by decide) (by omega)
      have e : 10 ^ 16 = 10000000000000000 := by decide
      omega
  exact ⟨by have := h.2.1; omega, fun c hc => wb_dig (decD_dig j n c (hb ▸ hc))⟩
theorem frac_wb {f : Nat} : (fracS f).length ≤ 6 ∧ ∀ c ∈ fracS f, wb c = true := by
  unfold fracS
  split
  · exact ⟨by simp, by simp⟩
  · obtain ⟨k, hk, ht, _⟩ := trimZ_take (decD 5 (fracQ f))
    refine ⟨?_, ?_⟩
    · rw [List.length_cons, ht, List.length_take, decD_len]
      omega
    · intro c hc
      rcases List.mem_cons.1 hc with rfl | hc
      · decide
      · rw [ht] at hc
        exact wb_dig (decD_dig _ _ c (List.mem_of_mem_take hc))
theorem fmt_arg {x : Int} {b : ByteArray} (h : FmtOf x (bts b)) (hx : x.natAbs ≤ 2147483648) : ArgT b := by
  obtain ⟨j, hj, hb⟩ := h
  have hj5 : 1 ≤ j ∧ j ≤ 5 := by
    refine ⟨hj.2.1, ?_⟩
    rcases hj.2.2 with h1 | ⟨h1, h2⟩
    · omega
    · apply Decidable.byContradiction
      intro hc
      have : 10 ^ 5 ≤ 10 ^ (j - 1) := Nat.pow_le_pow_right (by decide) (by omega)
      have e : 10 ^ 5 = 100000 := by decide
      omega
  obtain ⟨f1, f2⟩ := frac_wb (f := x.natAbs % 65536)
  have hl := congrArg List.length hb
  rw [bts_len, List.length_append, List.length_append, decD_len] at hl
  refine ⟨?_, ?_⟩
  · split at hl
    · simp at hl; omega
    · simp at hl; omega
  · intro c hc
    rw [hb] at hc
    rcases List.mem_append.1 hc with hc | hc
    · rcases List.mem_append.1 hc with hc | hc
      · split at hc
        · simp at hc; subst hc; decide
        · cases hc
      · exact wb_dig (decD_dig _ _ c hc)
    · exact f2 c hc
/-- The word for a kind. -/
def kindB (k : Int) : ByteArray := if k = 0 then ⟨#[102, 105, 120, 101, 100]⟩ else if k = 1 then ⟨#[116, 117, 114, 110, 120]⟩ else if k = 2 then ⟨#[116, 117, 114, 110, 121]⟩ else if k = 3 then ⟨#[116, 117, 114, 110, 122]⟩ else if k = 4 then ⟨#[115, 108, 105, 100, 101, 120]⟩ else if k = 5 then ⟨#[115, 108, 105, 100, 101, 121]⟩ else ⟨#[115, 108, 105, 100, 101, 122]⟩
set_option maxRecDepth 100000 in
theorem kind_tab (k : Int) (h0 : 0 ≤ k) (h6 : k ≤ 6) : ∀ w, (Instr.index 127 (.agg #[.string ⟨#[102, 105, 120, 101, 100]⟩, .string ⟨#[116, 117, 114, 110, 120]⟩, .string ⟨#[116, 117, 114, 110, 121]⟩, .string ⟨#[116, 117, 114, 110, 122]⟩, .string ⟨#[115, 108, 105, 100, 101, 120]⟩, .string ⟨#[115, 108, 105, 100, 101, 121]⟩, .string ⟨#[115, 108, 105, 100, 101, 122]⟩]) (.int .i64 k)).run Tryd.prog w = .ok (.string (kindB k)) w := by
  rcases (show k = 0 ∨ k = 1 ∨ k = 2 ∨ k = 3 ∨ k = 4 ∨ k = 5 ∨ k = 6 by omega) with rfl | rfl | rfl | rfl | rfl | rfl | rfl
  all_goals exact fun w => by kernel_rfl
theorem kindB_arg (k : Int) : ArgT (kindB k) := by
  unfold kindB ArgT
  repeat' split
  all_goals decide
set_option linter.unusedSimpArgs false in
set_option linter.unusedVariables false in
set_option maxRecDepth 100000 in
set_option maxHeartbeats 3200000 in
theorem rKindName_any (k : Int) (w : World) (h0 : 0 ≤ k) (h6 : k ≤ 6) : Calls Tryd.prog 70 #[ .int .i64 k ] w fun e w' => e = .returned (.string (kindB k)) ∧ w = w' := by
  have hix := kind_tab k h0 h6
  obtain ⟨b, hb⟩ : ∃ b, kindB k = b := ⟨_, rfl⟩
  rw [hb] at hix ⊢
  clear hb
  go_enter Tryd.func70, Tryd.ntmps70
  go_wp2
  go_ret
  exact ⟨rfl, rfl⟩
set_option linter.unusedSimpArgs false in
set_option linter.unusedVariables false in
set_option maxRecDepth 100000 in
set_option maxHeartbeats 3200000 in
theorem rBetween_any (x a b : Int) (w : World) : Calls Tryd.prog 36 #[ .int .i64 x, .int .i64 a, .int .i64 b ] w fun e w' => e = .returned (.bool (decide (a ≤ x) && decide (x ≤ b))) ∧ w = w' := by
  obtain ⟨y, hy⟩ : ∃ y, (decide (a ≤ x) && decide (x ≤ b)) = y := ⟨_, rfl⟩
  rw [hy]
  by_cases h1 : a ≤ x
  · by_cases h2 : x ≤ b
    · have : y = true := by rw [← hy]; simp [h1, h2]
      subst this
      clear hy
      go_enter Tryd.func36, Tryd.ntmps36
      go_wp2
      go_ret
      exact ⟨rfl, rfl⟩
    · have : y = false := by rw [← hy]; simp; omega
      subst this
      clear hy
      go_enter Tryd.func36, Tryd.ntmps36
      go_wp2
      go_ret
      exact ⟨rfl, rfl⟩
  · have : y = false := by rw [← hy]; simp; omega
    subst this
    clear hy
    go_enter Tryd.func36, Tryd.ntmps36
    go_wp2
    go_ret
    exact ⟨rfl, rfl⟩
def reachK (k : Int) : Int := if k = 0 then 0 else if 1 ≤ k ∧ k ≤ 3 then 524288 else 4194304
set_option linter.unusedSimpArgs false in
set_option linter.unusedVariables false in
set_option maxRecDepth 100000 in
set_option maxHeartbeats 3200000 in
theorem rReach_any (k : Int) (w : World) : Calls Tryd.prog 68 #[ .int .i64 k ] w fun e w' => e = .returned (.int .i64 (reachK k)) ∧ w = w' := by
  by_cases h0 : k = 0
  · subst h0
    go_enter Tryd.func68, Tryd.ntmps68
    go_wp2
    go_ret
    exact ⟨rfl, rfl⟩
  · by_cases h1 : k = 1
    · subst h1
      go_enter Tryd.func68, Tryd.ntmps68
      go_wp2
      go_ret
      exact ⟨rfl, rfl⟩
    · by_cases h2 : k = 2
      · subst h2
        go_enter Tryd.func68, Tryd.ntmps68
        go_wp2
        go_ret
        exact ⟨rfl, rfl⟩
      · by_cases h3 : k = 3
        · subst h3
          go_enter Tryd.func68, Tryd.ntmps68
          go_wp2
          go_ret
          exact ⟨rfl, rfl⟩
        · have hr : reachK k = 4194304 := by unfold reachK; rw [if_neg h0, if_neg (by omega)]
          rw [hr]
          go_enter Tryd.func68, Tryd.ntmps68
          go_wp2
          go_ret
          exact ⟨rfl, rfl⟩
end Go.Proofs.YtpaiapcnoifpmaaDoor
