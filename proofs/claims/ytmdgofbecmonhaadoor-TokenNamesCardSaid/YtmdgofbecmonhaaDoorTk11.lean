/- Proved: the statements TokenSplits, TokenNumbers and TokenNames return true. Conditions: as each theorem states. -/
import Derived.Test.YtmdgofbecmonhaaDoorTk10
namespace Go.Proofs.YtmdgofbecmonhaaDoor
open Go.RowKit

theorem cat_size {a b : ByteArray} {k : Nat} (ha : a.size ≤ k) (hb : b.size ≤ 1000) (hk : k ≤ 1000) : (a ++ b).size ≤ maxLen := by
  rw [ByteArray.size_append]; unfold maxLen; omega
/-- A slice of n bytes lies in memory that was there. -/
def BytesAt (W : World) (a : Option Addr) (n : Nat) : Prop := n ≤ 9223372036854775807 ∧
  ∀ t, t < n → ∃ (lb lo z : Nat), a = some ⟨lb, lo, none⟩ ∧ lb < W.heap.size ∧ W.cell? ⟨lb, lo + t, none⟩ = some (.int .u8 z) ∧ z < 256
theorem BytesAt.below {W V : World} {a : Option Addr} {n : Nat} (h : BytesAt W a n) (hb : Below W.heap.size W V) : BytesAt V a n :=
  ⟨h.1, fun t ht => by
    obtain ⟨lb, lo, z, e, hl, hz, z1⟩ := h.2 t ht
    have := hb.size
    exact ⟨lb, lo, z, e, by omega, by rw [hb.cell (p := ⟨lb, lo + t, none⟩) hl]; exact hz, z1⟩⟩
theorem tab16 (m : Nat) (h : m < 16) : ∃ t : ByteArray, t.size ≤ 9 ∧ ∀ w, (Instr.index 48 (.agg #[.string ⟨#[106, 111, 105, 110, 116]⟩, .string ⟨#[97]⟩, .string ⟨#[45, 49, 46, 53]⟩, .string ⟨#[32]⟩, .string ⟨#[32]⟩, .string ⟨#[10]⟩, .string ⟨#[9]⟩, .string ⟨#[35]⟩, .string ⟨#[120, 35, 121]⟩, .string ⟨#[119, 111, 114, 108, 100]⟩, .string ⟨#[48, 46, 50, 53]⟩, .string ⟨#[10, 10]⟩, .string ⟨#[32, 32]⟩, .string ⟨#[115, 104, 97, 112, 101, 32, 98, 32, 49]⟩, .string ⟨#[127]⟩, .string ⟨#[126]⟩]) (.int .u8 (m : Int))).run Tryd.prog w = .ok (.string t) w := by
  rcases (show m = 0 ∨ m = 1 ∨ m = 2 ∨ m = 3 ∨ m = 4 ∨ m = 5 ∨ m = 6 ∨ m = 7 ∨ m = 8 ∨ m = 9 ∨ m = 10 ∨ m = 11 ∨ m = 12 ∨ m = 13 ∨ m = 14 ∨ m = 15 by omega) with rfl | rfl | rfl | rfl | rfl | rfl | rfl | rfl | rfl | rfl | rfl | rfl | rfl | rfl | rfl | rfl
  · exact ⟨⟨#[106, 111, 105, 110, 116]⟩, by decide, fun w => by kernel_rfl⟩
  · exact ⟨⟨#[97]⟩, by decide, fun w => by kernel_rfl⟩
  · exact ⟨⟨#[45, 49, 46, 53]⟩, by decide, fun w => by kernel_rfl⟩
  · exact ⟨⟨#[32]⟩, by decide, fun w => by kernel_rfl⟩
  · exact ⟨⟨#[32]⟩, by decide, fun w => by kernel_rfl⟩
  · exact ⟨⟨#[10]⟩, by decide, fun w => by kernel_rfl⟩
  · exact ⟨⟨#[9]⟩, by decide, fun w => by kernel_rfl⟩
  · exact ⟨⟨#[35]⟩, by decide, fun w => by kernel_rfl⟩
  · exact ⟨⟨#[120, 35, 121]⟩, by decide, fun w => by kernel_rfl⟩
  · exact ⟨⟨#[119, 111, 114, 108, 100]⟩, by decide, fun w => by kernel_rfl⟩
  · exact ⟨⟨#[48, 46, 50, 53]⟩, by decide, fun w => by kernel_rfl⟩
  · exact ⟨⟨#[10, 10]⟩, by decide, fun w => by kernel_rfl⟩
  · exact ⟨⟨#[32, 32]⟩, by decide, fun w => by kernel_rfl⟩
  · exact ⟨⟨#[115, 104, 97, 112, 101, 32, 98, 32, 49]⟩, by decide, fun w => by kernel_rfl⟩
  · exact ⟨⟨#[127]⟩, by decide, fun w => by kernel_rfl⟩
  · exact ⟨⟨#[126]⟩, by decide, fun w => by kernel_rfl⟩
theorem tab8 (m : Nat) (h : m < 8) : ∃ t : ByteArray, t.size ≤ 9 ∧ ∀ w, (Instr.index 27 (.agg #[.string ⟨#[48]⟩, .string ⟨#[49]⟩, .string ⟨#[55]⟩, .string ⟨#[57]⟩, .string ⟨#[46]⟩, .string ⟨#[45]⟩, .string ⟨#[50, 53]⟩, .string ⟨#[120]⟩]) (.int .u8 (m : Int))).run Tryd.prog w = .ok (.string t) w := by
  rcases (show m = 0 ∨ m = 1 ∨ m = 2 ∨ m = 3 ∨ m = 4 ∨ m = 5 ∨ m = 6 ∨ m = 7 by omega) with rfl | rfl | rfl | rfl | rfl | rfl | rfl | rfl
  · exact ⟨⟨#[48]⟩, by decide, fun w => by kernel_rfl⟩
  · exact ⟨⟨#[49]⟩, by decide, fun w => by kernel_rfl⟩
  · exact ⟨⟨#[55]⟩, by decide, fun w => by kernel_rfl⟩
  · exact ⟨⟨#[57]⟩, by decide, fun w => by kernel_rfl⟩
  · exact ⟨⟨#[46]⟩, by decide, fun w => by kernel_rfl⟩
  · exact ⟨⟨#[45]⟩, by decide, fun w => by kernel_rfl⟩
  · exact ⟨⟨#[50, 53]⟩, by decide, fun w => by kernel_rfl⟩
  · exact ⟨⟨#[120]⟩, by decide, fun w => by kernel_rfl⟩
theorem tab9 (m : Nat) (h : m < 9) : ∃ t : ByteArray, t.size ≤ 9 ∧ ∀ w, (Instr.index 32 (.agg #[.string ⟨#[97]⟩, .string ⟨#[122]⟩, .string ⟨#[95]⟩, .string ⟨#[48]⟩, .string ⟨#[119, 111, 114, 108, 100]⟩, .string ⟨#[66]⟩, .string ⟨#[57]⟩, .string ⟨#[45]⟩, .string ⟨#[97, 114, 109]⟩]) (.int .u8 (m : Int))).run Tryd.prog w = .ok (.string t) w := by
  rcases (show m = 0 ∨ m = 1 ∨ m = 2 ∨ m = 3 ∨ m = 4 ∨ m = 5 ∨ m = 6 ∨ m = 7 ∨ m = 8 by omega) with rfl | rfl | rfl | rfl | rfl | rfl | rfl | rfl | rfl
  · exact ⟨⟨#[97]⟩, by decide, fun w => by kernel_rfl⟩
  · exact ⟨⟨#[122]⟩, by decide, fun w => by kernel_rfl⟩
  · exact ⟨⟨#[95]⟩, by decide, fun w => by kernel_rfl⟩
  · exact ⟨⟨#[48]⟩, by decide, fun w => by kernel_rfl⟩
  · exact ⟨⟨#[119, 111, 114, 108, 100]⟩, by decide, fun w => by kernel_rfl⟩
  · exact ⟨⟨#[66]⟩, by decide, fun w => by kernel_rfl⟩
  · exact ⟨⟨#[57]⟩, by decide, fun w => by kernel_rfl⟩
  · exact ⟨⟨#[45]⟩, by decide, fun w => by kernel_rfl⟩
  · exact ⟨⟨#[97, 114, 109]⟩, by decide, fun w => by kernel_rfl⟩
set_option linter.unusedSimpArgs false in
set_option linter.unusedVariables false in
set_option maxRecDepth 100000 in
set_option maxHeartbeats 6400000 in
theorem typical_any (a : Option Addr) (n cap : Nat) (w : World) (l : BytesAt w a n) :
    Calls Tryd.prog 12 #[ .slice a n cap ] w fun e w' => ∃ b : ByteArray, e = .returned (.string b) ∧ b.size ≤ 720 ∧ w = w' := by
  have hn := l.1
  have HBY := Lib.hid l
  clear l
  go_enter Tryd.func12, Tryd.ntmps12
  go_wp2_with fail
  go_loop [3, 4] (fun s i => ∃ (k : Nat) (b : ByteArray), k ≤ n ∧ k ≤ 80 ∧ i = .int .i64 k ∧ s = .string b ∧ b.size ≤ 9 * k) (fun _ i => n - (intOf i).toNat)
  case atStart => exact ⟨0, ⟨#[]⟩, by omega, by omega, rfl, rfl, by decide⟩
  case round =>
    obtain ⟨k, b, hk, hk2, rfl, rfl, hb⟩ := hrel
    by_cases hlt : k < n
    · by_cases hlm : k < 80
      · obtain ⟨lb, lo, z, rfl, hl, hz, z1⟩ := HBY.out.2 k hlt
        obtain ⟨m, hm⟩ : ∃ m : Nat, z % 16 = m := ⟨_, rfl⟩
        have hmi : (z : Int) % 16 = (m : Int) := by omega
        obtain ⟨t, ht, hix⟩ := tab16 m (by omega)
        have HM := Lib.hid hm
        clear hm
        go_wp2_with fail
        go_round
        case rel => exact ⟨k + 1, b ++ t, by omega, by omega, by go_num, rfl, by rw [ByteArray.size_append]; omega⟩
        case measure => simp [intOf]; omega
      · skip
        go_wp2_with fail
        go_ret
        exact ⟨b, rfl, by omega, rfl⟩
    · skip
      go_wp2_with fail
      go_ret
      exact ⟨b, rfl, by omega, rfl⟩
set_option linter.unusedSimpArgs false in
set_option linter.unusedVariables false in
set_option maxRecDepth 100000 in
set_option maxHeartbeats 6400000 in
theorem TokenSplits_any (s : ByteArray) (a : Option Addr) (n cap : Nat) (w : World) (hs : s.size ≤ 140737488355328) (l : BytesAt w a n) :
    Calls Tryd.prog 3 #[ .string s, .slice a n cap ] w fun e w' => e = .returned (.bool true) ∧ Below w.heap.size w w' := by
  have HBY := Lib.hid l
  clear l
  go_enter Tryd.func3, Tryd.ntmps3
  go_wp2_with fail
  refine (awake_any _).mono ?_
  rintro e w1 ⟨rfl, hb⟩
  have B1 := Lib.hid hb
  clear hb
  go_wp2_with fail
  refine (splits_any s _ (by unfold maxLen; omega)).mono ?_
  rintro e w2 ⟨rfl, hb⟩
  have B2 := Lib.hid (bl_next hb B1.out)
  clear hb
  go_wp2_with fail
  refine (typical_any a n cap _ (HBY.out.below B2.out)).mono ?_
  rintro e w3 ⟨b, rfl, hbz, rfl⟩
  go_wp2_with fail
  refine (splits_any b _ (by unfold maxLen; omega)).mono ?_
  rintro e w3 ⟨rfl, hb⟩
  have B3 := Lib.hid (bl_next hb B2.out)
  clear hb
  go_wp2_with fail
  refine (typical_any a n cap _ (HBY.out.below B3.out)).mono ?_
  rintro e w4 ⟨b', rfl, hbz', rfl⟩
  go_wp2_with fail
  refine (splits_any (b' ++ s) _ (by rw [ByteArray.size_append]; unfold maxLen; omega)).mono ?_
  rintro e w5 ⟨rfl, hb⟩
  have B4 := Lib.hid (bl_next hb B3.out)
  clear hb
  go_wp2_with fail
  go_ret
  exact ⟨rfl, B4.out⟩
set_option linter.unusedSimpArgs false in
set_option linter.unusedVariables false in
set_option maxRecDepth 100000 in
set_option maxHeartbeats 6400000 in
theorem TokenNumbers_any (s : ByteArray) (a : Option Addr) (n cap : Nat) (w : World) (hs : s.size ≤ 140737488355328) (l : BytesAt w a n) :
    Calls Tryd.prog 4 #[ .string s, .slice a n cap ] w fun e w' => e = .returned (.bool true) ∧ Below w.heap.size w w' := by
  have hn := l.1
  have HBY := Lib.hid l
  clear l
  go_enter Tryd.func4, Tryd.ntmps4
  go_wp2_with fail
  go_loop [5, 6] (fun s i => ∃ (k : Nat) (b : ByteArray), k ≤ n ∧ k ≤ 18 ∧ i = .int .i64 k ∧ s = .string b ∧ b.size ≤ 9 * k) (fun _ i => n - (intOf i).toNat)
  case atStart => exact ⟨0, ⟨#[]⟩, by omega, by omega, rfl, rfl, by decide⟩
  case round =>
    obtain ⟨k, b, hk, hk2, rfl, rfl, hb⟩ := hrel
    by_cases hlt : k < n
    · by_cases hlm : k < 18
      · obtain ⟨lb, lo, z, rfl, hl, hz, z1⟩ := HBY.out.2 k hlt
        obtain ⟨m, hm⟩ : ∃ m : Nat, z % 8 = m := ⟨_, rfl⟩
        have hmi : (z : Int) % 8 = (m : Int) := by omega
        obtain ⟨t, ht, hix⟩ := tab8 m (by omega)
        have HM := Lib.hid hm
        clear hm
        go_wp2_with fail
        go_round
        case rel => exact ⟨k + 1, b ++ t, by omega, by omega, by go_num, rfl, by rw [ByteArray.size_append]; omega⟩
        case measure => simp [intOf]; omega
      · skip
        go_wp2_with fail
        refine (awake_any _).mono ?_
        rintro e w1 ⟨rfl, hb⟩
        have B1 := Lib.hid hb
        clear hb
        go_wp2_with fail
        refine (numbers_any (s) _ (by unfold maxLen; omega)).mono ?_
        rintro e w2 ⟨rfl, hb⟩
        have B2 := Lib.hid (bl_next hb B1.out)
        clear hb
        go_wp2_with fail
        refine (numbers_any (b) _ (by unfold maxLen; omega)).mono ?_
        rintro e w3 ⟨rfl, hb⟩
        have B3 := Lib.hid (bl_next hb B2.out)
        clear hb
        go_wp2_with fail
        refine (numbers_any (_) _ (cat_size (k := 1) (by decide) (by omega) (by omega))).mono ?_
        rintro e w4 ⟨rfl, hb⟩
        have B4 := Lib.hid (bl_next hb B3.out)
        clear hb
        go_wp2_with fail
        refine (numbers_any (_) _ (cat_size (k := 3) (by decide) (by omega) (by omega))).mono ?_
        rintro e w5 ⟨rfl, hb⟩
        have B5 := Lib.hid (bl_next hb B4.out)
        clear hb
        go_wp2_with fail
        go_ret
        exact ⟨rfl, B5.out⟩
    · skip
      go_wp2_with fail
      refine (awake_any _).mono ?_
      rintro e w1 ⟨rfl, hb⟩
      have B1 := Lib.hid hb
      clear hb
      go_wp2_with fail
      refine (numbers_any (s) _ (by unfold maxLen; omega)).mono ?_
      rintro e w2 ⟨rfl, hb⟩
      have B2 := Lib.hid (bl_next hb B1.out)
      clear hb
      go_wp2_with fail
      refine (numbers_any (b) _ (by unfold maxLen; omega)).mono ?_
      rintro e w3 ⟨rfl, hb⟩
      have B3 := Lib.hid (bl_next hb B2.out)
      clear hb
      go_wp2_with fail
      refine (numbers_any (_) _ (cat_size (k := 1) (by decide) (by omega) (by omega))).mono ?_
      rintro e w4 ⟨rfl, hb⟩
      have B4 := Lib.hid (bl_next hb B3.out)
      clear hb
      go_wp2_with fail
      refine (numbers_any (_) _ (cat_size (k := 3) (by decide) (by omega) (by omega))).mono ?_
      rintro e w5 ⟨rfl, hb⟩
      have B5 := Lib.hid (bl_next hb B4.out)
      clear hb
      go_wp2_with fail
      go_ret
      exact ⟨rfl, B5.out⟩
theorem name_world (w : World) : Calls Tryd.prog 17 #[ .string ⟨#[119, 111, 114, 108, 100]⟩ ] w fun e w' => e = .returned (.bool false) ∧ Below w.heap.size w w' := by
  have := tName_any ⟨#[119, 111, 114, 108, 100]⟩ w
  rwa [show nameS (bts ⟨#[119, 111, 114, 108, 100]⟩) = false by rfl] at this
theorem name_arm (w : World) : Calls Tryd.prog 17 #[ .string ⟨#[97, 114, 109, 95, 49]⟩ ] w fun e w' => e = .returned (.bool true) ∧ Below w.heap.size w w' := by
  have := tName_any ⟨#[97, 114, 109, 95, 49]⟩ w
  rwa [show nameS (bts ⟨#[97, 114, 109, 95, 49]⟩) = true by rfl] at this
set_option linter.unusedSimpArgs false in
set_option linter.unusedVariables false in
set_option maxRecDepth 100000 in
set_option maxHeartbeats 6400000 in
theorem TokenNames_any (a : Option Addr) (n cap : Nat) (w : World) (l : BytesAt w a n) :
    Calls Tryd.prog 6 #[ .slice a n cap ] w fun e w' => e = .returned (.bool true) ∧ Below w.heap.size w w' := by
  have hn := l.1
  have HBY := Lib.hid l
  clear l
  go_enter Tryd.func6, Tryd.ntmps6
  go_wp2_with fail
  go_loop [3, 4] (fun s i => ∃ (k : Nat) (b : ByteArray), k ≤ n ∧ k ≤ 20 ∧ i = .int .i64 k ∧ s = .string b ∧ b.size ≤ 9 * k) (fun _ i => n - (intOf i).toNat)
  case atStart => exact ⟨0, ⟨#[]⟩, by omega, by omega, rfl, rfl, by decide⟩
  case round =>
    obtain ⟨k, b, hk, hk2, rfl, rfl, hb⟩ := hrel
    by_cases hlt : k < n
    · by_cases hlm : k < 20
      · obtain ⟨lb, lo, z, rfl, hl, hz, z1⟩ := HBY.out.2 k hlt
        obtain ⟨m, hm⟩ : ∃ m : Nat, z % 9 = m := ⟨_, rfl⟩
        have hmi : (z : Int) % 9 = (m : Int) := by omega
        obtain ⟨t, ht, hix⟩ := tab9 m (by omega)
        have HM := Lib.hid hm
        clear hm
        go_wp2_with fail
        go_round
        case rel => exact ⟨k + 1, b ++ t, by omega, by omega, by go_num, rfl, by rw [ByteArray.size_append]; omega⟩
        case measure => simp [intOf]; omega
      · skip
        go_wp2_with fail
        refine (awake_any _).mono ?_
        rintro e w1 ⟨rfl, hb⟩
        have B1 := Lib.hid hb
        clear hb
        obtain ⟨y, hy⟩ : ∃ y, nameS (bts b) = y := ⟨_, rfl⟩
        have K1 : ∀ w, Calls Tryd.prog 17 #[ .string b ] w fun e w' => e = .returned (.bool y) ∧ Below w.heap.size w w' := fun w => by rw [← hy]; exact tName_any b w
        have K2 : ∀ w, Calls Tryd.prog 18 #[ .string b ] w fun e w' => e = .returned (.bool y) ∧ w = w' := fun w => by rw [← hy]; exact rName_any b w
        have H1 := Lib.hid K1
        have H2 := Lib.hid K2
        clear K1 K2 hy
        cases y
        all_goals
          go_wp2_with fail
          refine (H1.out _).mono ?_
          rintro e w2 ⟨rfl, hb⟩
          have B2 := Lib.hid (bl_next hb B1.out)
          clear hb
          go_wp2_with fail
          refine (H2.out _).mono ?_
          rintro e w3 ⟨rfl, rfl⟩
          go_wp2_with fail
          refine (name_world _).mono ?_
          rintro e w3 ⟨rfl, hb⟩
          have B3 := Lib.hid (bl_next hb B2.out)
          clear hb
          go_wp2_with fail
          refine (name_arm _).mono ?_
          rintro e w4 ⟨rfl, hb⟩
          have B4 := Lib.hid (bl_next hb B3.out)
          clear hb
          go_wp2_with fail
          go_ret
          exact ⟨rfl, B4.out⟩
    · skip
      go_wp2_with fail
      refine (awake_any _).mono ?_
      rintro e w1 ⟨rfl, hb⟩
      have B1 := Lib.hid hb
      clear hb
      obtain ⟨y, hy⟩ : ∃ y, nameS (bts b) = y := ⟨_, rfl⟩
      have K1 : ∀ w, Calls Tryd.prog 17 #[ .string b ] w fun e w' => e = .returned (.bool y) ∧ Below w.heap.size w w' := fun w => by rw [← hy]; exact tName_any b w
      have K2 : ∀ w, Calls Tryd.prog 18 #[ .string b ] w fun e w' => e = .returned (.bool y) ∧ w = w' := fun w => by rw [← hy]; exact rName_any b w
      have H1 := Lib.hid K1
      have H2 := Lib.hid K2
      clear K1 K2 hy
      cases y
      all_goals
        go_wp2_with fail
        refine (H1.out _).mono ?_
        rintro e w2 ⟨rfl, hb⟩
        have B2 := Lib.hid (bl_next hb B1.out)
        clear hb
        go_wp2_with fail
        refine (H2.out _).mono ?_
        rintro e w3 ⟨rfl, rfl⟩
        go_wp2_with fail
        refine (name_world _).mono ?_
        rintro e w3 ⟨rfl, hb⟩
        have B3 := Lib.hid (bl_next hb B2.out)
        clear hb
        go_wp2_with fail
        refine (name_arm _).mono ?_
        rintro e w4 ⟨rfl, hb⟩
        have B4 := Lib.hid (bl_next hb B3.out)
        clear hb
        go_wp2_with fail
        go_ret
        exact ⟨rfl, B4.out⟩
end Go.Proofs.YtmdgofbecmonhaaDoor
