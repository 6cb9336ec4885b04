/- Proved: the statement TokenNearest returns true. Conditions: as each theorem states. -/
import Derived.Test.YtmdgofbecmonhaaDoorTk11
namespace Go.Proofs.YtmdgofbecmonhaaDoor
open Go.RowKit

theorem decLen_fix {f n j : Nat} (hf : f < 10 ^ n) (h : DecLen f n j) : j = n := decLen_one h ⟨hf, Nat.le_refl _, .inl rfl⟩
theorem tNumber_some (s : ByteArray) (x : Int) (w : World) (h : numS (bts s) = some x) (hs : s.size ≤ maxLen) :
    Calls Tryd.prog 15 #[ .string s ] w fun e w' => e = .returned (.tuple #[.int .i64 x, .bool true]) ∧ Below w.heap.size w w' := by
  have := tNumber_any s w hs
  rw [h] at this; exact this
theorem near_bts {b1 b2 : ByteArray} {j n w f : Nat} (h1 : bts b1 = decD j w) (h2 : bts b2 = decD n f) : bts (b1 ++ ⟨#[46]⟩ ++ b2) = decD j w ++ 46 :: decD n f := by
  rw [bts_append, bts_append, h1, h2, bts_point]; simp
theorem near_size {b1 b2 : ByteArray} (h1 : b1.size ≤ 5) (h2 : b2.size ≤ 5) : (b1 ++ ⟨#[46]⟩ ++ b2).size ≤ maxLen := by
  rw [ByteArray.size_append, ByteArray.size_append]
  have : (⟨#[46]⟩ : ByteArray).size = 1 := rfl
  unfold maxLen; omega
set_option linter.unusedSimpArgs false in
set_option linter.unusedVariables false in
set_option maxRecDepth 100000 in
set_option maxHeartbeats 3200000 in
theorem near_1 (a b c : Nat) (w : World) (ha : a < 65536) (hb : b < 65536) (hc : c < 256) (hk : c % 4 = 0) :
    Calls Tryd.prog 9 #[ .int .u16 a, .int .u16 b, .int .u8 c ] w fun e w' => e = .returned (.bool true) ∧ Below w.heap.size w w' := by
  have hki : (c : Int) % 4 = 0 := by omega
  obtain ⟨wn, hwn⟩ : ∃ wn, a % 32000 = wn := ⟨_, rfl⟩
  obtain ⟨f, hfn⟩ : ∃ f, b % 10 = f := ⟨_, rfl⟩
  have hwi : (a : Int) % 32000 = (wn : Int) := by omega
  have hfi : (b : Int) % 10 = (f : Int) := by omega
  have hw32 : wn < 32000 := by omega
  have hf : f < 10 := by omega
  clear hwn hfn
  go_enter Tryd.func9, Tryd.ntmps9
  go_wp2_with fail
  go_loop [8, 9] (fun t i => ∃ j : Nat, j ≤ 1 ∧ i = .int .i64 j ∧ t = .int .i64 ((10 ^ j : Nat) : Int)) (fun _ i => 1 - (intOf i).toNat)
  case atStart => exact ⟨0, by omega, rfl, rfl⟩
  case round =>
    obtain ⟨j, hj, rfl, rfl⟩ := hrel
    by_cases hlt : j < 1
    · obtain ⟨q1, q2⟩ := pow6 (k := j) (by omega)
      obtain ⟨Q, hQ⟩ : ∃ Q, 10 ^ j = Q := ⟨_, rfl⟩
      rw [hQ] at q1 q2 ⊢
      have HQ := Lib.hid hQ
      clear hQ
      go_wp2_with fail
      go_round
      case rel => exact ⟨j + 1, by omega, by go_num, by rw [Nat.pow_succ, HQ.out]; go_num⟩
      case measure => simp [intOf]; omega
    · obtain rfl : j = 1 := by omega
      rw [show ((10 ^ 1 : Nat) : Int) = 10 by rfl]
      clear hki hlt hj
      go_wp2_with fail
      go_quiet (fail)
      have B0 := Lib.hid (show Below w.heap.size w (w.drewN nq) from bl_drewN (Below.refl _ _))
      obtain ⟨wr, hwr⟩ : ∃ wr, w.drewN nq = wr := ⟨_, rfl⟩
      rw [hwr] at B0 ⊢
      clear hwr
      go_wp2_with fail
      refine (rDecimal_any wn 1 _ _ _ (by first | rfl | omega) rfl (by omega) (by omega)).mono ?_
      rintro e w1 ⟨j, b1, rfl, hj1, hb1, rfl⟩
      have z1 : b1.size ≤ 5 := by rw [dec_size hb1]; exact dec1 (by omega) hj1
      have J1 := Lib.hid hj1
      have T1 := Lib.hid hb1
      clear hj1 hb1
      go_wp2_with fail
      refine (rDecimal_any f 1 _ _ _ (by first | rfl | omega) rfl (by omega) (by omega)).mono ?_
      rintro e w1 ⟨jf, b2, rfl, hj2, hb2, rfl⟩
      have hjf := decLen_fix (by simpa using hf) hj2
      subst hjf
      have z2 : b2.size ≤ 5 := by rw [dec_size hb2]; omega
      have T2 := Lib.hid hb2
      clear hj2 hb2
      obtain ⟨X, hX⟩ : ∃ X : Nat, wn * 65536 + (2 * f * 65536 + 10 ^ 1) / (2 * 10 ^ 1) = X := ⟨_, rfl⟩
      have hnum : numS (bts (b1 ++ ⟨#[46]⟩ ++ b2)) = some (X : Int) := by
        rw [near_bts T1.out T2.out, ← hX]; exact num_near hw32 J1.out (by omega) (by omega) (by simpa using hf)
      have HNUM := Lib.hid hnum
      obtain ⟨D1, D2⟩ := near_ok (w := wn) (f := f) (n := 1) (by omega) (by omega)
      simp only [hX] at D1 D2
      rw [show ((10 ^ 1 : Nat) : Int) = 10 by rfl] at D1 D2
      have hXb : X ≤ 2147483648 := by
        rw [← hX, show 10 ^ 1 = 10 by rfl]
        omega
      clear hX hnum
      go_wp2_with fail
      refine (tNumber_some _ _ _ HNUM.out (near_size z1 z2)).mono ?_
      rintro e w2 ⟨rfl, hb⟩
      have B1 := Lib.hid (bl_next hb B0.out)
      clear hb
      go_wp2_with fail
      refine (awake_any _).mono ?_
      rintro e w3 ⟨rfl, hb⟩
      have B2 := Lib.hid (bl_next hb B1.out)
      clear hb
      go_wp2_with fail
      all_goals
        go_ret
        exact ⟨by first | rfl | (refine ret_bool' ?_; simp; omega), B2.out⟩
set_option linter.unusedSimpArgs false in
set_option linter.unusedVariables false in
set_option maxRecDepth 100000 in
set_option maxHeartbeats 3200000 in
theorem near_2 (a b c : Nat) (w : World) (ha : a < 65536) (hb : b < 65536) (hc : c < 256) (hk : c % 4 = 1) :
    Calls Tryd.prog 9 #[ .int .u16 a, .int .u16 b, .int .u8 c ] w fun e w' => e = .returned (.bool true) ∧ Below w.heap.size w w' := by
  have hki : (c : Int) % 4 = 1 := by omega
  obtain ⟨wn, hwn⟩ : ∃ wn, a % 32000 = wn := ⟨_, rfl⟩
  obtain ⟨f, hfn⟩ : ∃ f, b % 100 = f := ⟨_, rfl⟩
  have hwi : (a : Int) % 32000 = (wn : Int) := by omega
  have hfi : (b : Int) % 100 = (f : Int) := by omega
  have hw32 : wn < 32000 := by omega
  have hf : f < 100 := by omega
  clear hwn hfn
  go_enter Tryd.func9, Tryd.ntmps9
  go_wp2_with fail
  go_loop [8, 9] (fun t i => ∃ j : Nat, j ≤ 2 ∧ i = .int .i64 j ∧ t = .int .i64 ((10 ^ j : Nat) : Int)) (fun _ i => 2 - (intOf i).toNat)
  case atStart => exact ⟨0, by omega, rfl, rfl⟩
  case round =>
    obtain ⟨j, hj, rfl, rfl⟩ := hrel
    by_cases hlt : j < 2
    · obtain ⟨q1, q2⟩ := pow6 (k := j) (by omega)
      obtain ⟨Q, hQ⟩ : ∃ Q, 10 ^ j = Q := ⟨_, rfl⟩
      rw [hQ] at q1 q2 ⊢
      have HQ := Lib.hid hQ
      clear hQ
      go_wp2_with fail
      go_round
      case rel => exact ⟨j + 1, by omega, by go_num, by rw [Nat.pow_succ, HQ.out]; go_num⟩
      case measure => simp [intOf]; omega
    · obtain rfl : j = 2 := by omega
      rw [show ((10 ^ 2 : Nat) : Int) = 100 by rfl]
      clear hki hlt hj
      go_wp2_with fail
      go_quiet (fail)
      have B0 := Lib.hid (show Below w.heap.size w (w.drewN nq) from bl_drewN (Below.refl _ _))
      obtain ⟨wr, hwr⟩ : ∃ wr, w.drewN nq = wr := ⟨_, rfl⟩
      rw [hwr] at B0 ⊢
      clear hwr
      go_wp2_with fail
      refine (rDecimal_any wn 1 _ _ _ (by first | rfl | omega) rfl (by omega) (by omega)).mono ?_
      rintro e w1 ⟨j, b1, rfl, hj1, hb1, rfl⟩
      have z1 : b1.size ≤ 5 := by rw [dec_size hb1]; exact dec1 (by omega) hj1
      have J1 := Lib.hid hj1
      have T1 := Lib.hid hb1
      clear hj1 hb1
      go_wp2_with fail
      refine (rDecimal_any f 2 _ _ _ (by first | rfl | omega) rfl (by omega) (by omega)).mono ?_
      rintro e w1 ⟨jf, b2, rfl, hj2, hb2, rfl⟩
      have hjf := decLen_fix (by simpa using hf) hj2
      subst hjf
      have z2 : b2.size ≤ 5 := by rw [dec_size hb2]; omega
      have T2 := Lib.hid hb2
      clear hj2 hb2
      obtain ⟨X, hX⟩ : ∃ X : Nat, wn * 65536 + (2 * f * 65536 + 10 ^ 2) / (2 * 10 ^ 2) = X := ⟨_, rfl⟩
      have hnum : numS (bts (b1 ++ ⟨#[46]⟩ ++ b2)) = some (X : Int) := by
        rw [near_bts T1.out T2.out, ← hX]; exact num_near hw32 J1.out (by omega) (by omega) (by simpa using hf)
      have HNUM := Lib.hid hnum
      obtain ⟨D1, D2⟩ := near_ok (w := wn) (f := f) (n := 2) (by omega) (by omega)
      simp only [hX] at D1 D2
      rw [show ((10 ^ 2 : Nat) : Int) = 100 by rfl] at D1 D2
      have hXb : X ≤ 2147483648 := by
        rw [← hX, show 10 ^ 2 = 100 by rfl]
        omega
      clear hX hnum
      go_wp2_with fail
      refine (tNumber_some _ _ _ HNUM.out (near_size z1 z2)).mono ?_
      rintro e w2 ⟨rfl, hb⟩
      have B1 := Lib.hid (bl_next hb B0.out)
      clear hb
      go_wp2_with fail
      refine (awake_any _).mono ?_
      rintro e w3 ⟨rfl, hb⟩
      have B2 := Lib.hid (bl_next hb B1.out)
      clear hb
      go_wp2_with fail
      all_goals
        go_ret
        exact ⟨by first | rfl | (refine ret_bool' ?_; simp; omega), B2.out⟩
set_option linter.unusedSimpArgs false in
set_option linter.unusedVariables false in
set_option maxRecDepth 100000 in
set_option maxHeartbeats 3200000 in
theorem near_3 (a b c : Nat) (w : World) (ha : a < 65536) (hb : b < 65536) (hc : c < 256) (hk : c % 4 = 2) :
    Calls Tryd.prog 9 #[ .int .u16 a, .int .u16 b, .int .u8 c ] w fun e w' => e = .returned (.bool true) ∧ Below w.heap.size w w' := by
  have hki : (c : Int) % 4 = 2 := by omega
  obtain ⟨wn, hwn⟩ : ∃ wn, a % 32000 = wn := ⟨_, rfl⟩
  obtain ⟨f, hfn⟩ : ∃ f, b % 1000 = f := ⟨_, rfl⟩
  have hwi : (a : Int) % 32000 = (wn : Int) := by omega
  have hfi : (b : Int) % 1000 = (f : Int) := by omega
  have hw32 : wn < 32000 := by omega
  have hf : f < 1000 := by omega
  clear hwn hfn
  go_enter Tryd.func9, Tryd.ntmps9
  go_wp2_with fail
  go_loop [8, 9] (fun t i => ∃ j : Nat, j ≤ 3 ∧ i = .int .i64 j ∧ t = .int .i64 ((10 ^ j : Nat) : Int)) (fun _ i => 3 - (intOf i).toNat)
  case atStart => exact ⟨0, by omega, rfl, rfl⟩
  case round =>
    obtain ⟨j, hj, rfl, rfl⟩ := hrel
    by_cases hlt : j < 3
    · obtain ⟨q1, q2⟩ := pow6 (k := j) (by omega)
      obtain ⟨Q, hQ⟩ : ∃ Q, 10 ^ j = Q := ⟨_, rfl⟩
      rw [hQ] at q1 q2 ⊢
      have HQ := Lib.hid hQ
      clear hQ
      go_wp2_with fail
      go_round
      case rel => exact ⟨j + 1, by omega, by go_num, by rw [Nat.pow_succ, HQ.out]; go_num⟩
      case measure => simp [intOf]; omega
    · obtain rfl : j = 3 := by omega
      rw [show ((10 ^ 3 : Nat) : Int) = 1000 by rfl]
      clear hki hlt hj
      go_wp2_with fail
      go_quiet (fail)
      have B0 := Lib.hid (show Below w.heap.size w (w.drewN nq) from bl_drewN (Below.refl _ _))
      obtain ⟨wr, hwr⟩ : ∃ wr, w.drewN nq = wr := ⟨_, rfl⟩
      rw [hwr] at B0 ⊢
      clear hwr
      go_wp2_with fail
      refine (rDecimal_any wn 1 _ _ _ (by first | rfl | omega) rfl (by omega) (by omega)).mono ?_
      rintro e w1 ⟨j, b1, rfl, hj1, hb1, rfl⟩
      have z1 : b1.size ≤ 5 := by rw [dec_size hb1]; exact dec1 (by omega) hj1
      have J1 := Lib.hid hj1
      have T1 := Lib.hid hb1
      clear hj1 hb1
      go_wp2_with fail
      refine (rDecimal_any f 3 _ _ _ (by first | rfl | omega) rfl (by omega) (by omega)).mono ?_
      rintro e w1 ⟨jf, b2, rfl, hj2, hb2, rfl⟩
      have hjf := decLen_fix (by simpa using hf) hj2
      subst hjf
      have z2 : b2.size ≤ 5 := by rw [dec_size hb2]; omega
      have T2 := Lib.hid hb2
      clear hj2 hb2
      obtain ⟨X, hX⟩ : ∃ X : Nat, wn * 65536 + (2 * f * 65536 + 10 ^ 3) / (2 * 10 ^ 3) = X := ⟨_, rfl⟩
      have hnum : numS (bts (b1 ++ ⟨#[46]⟩ ++ b2)) = some (X : Int) := by
        rw [near_bts T1.out T2.out, ← hX]; exact num_near hw32 J1.out (by omega) (by omega) (by simpa using hf)
      have HNUM := Lib.hid hnum
      obtain ⟨D1, D2⟩ := near_ok (w := wn) (f := f) (n := 3) (by omega) (by omega)
      simp only [hX] at D1 D2
      rw [show ((10 ^ 3 : Nat) : Int) = 1000 by rfl] at D1 D2
      have hXb : X ≤ 2147483648 := by
        rw [← hX, show 10 ^ 3 = 1000 by rfl]
        omega
      clear hX hnum
      go_wp2_with fail
      refine (tNumber_some _ _ _ HNUM.out (near_size z1 z2)).mono ?_
      rintro e w2 ⟨rfl, hb⟩
      have B1 := Lib.hid (bl_next hb B0.out)
      clear hb
      go_wp2_with fail
      refine (awake_any _).mono ?_
      rintro e w3 ⟨rfl, hb⟩
      have B2 := Lib.hid (bl_next hb B1.out)
      clear hb
      go_wp2_with fail
      all_goals
        go_ret
        exact ⟨by first | rfl | (refine ret_bool' ?_; simp; omega), B2.out⟩
set_option linter.unusedSimpArgs false in
set_option linter.unusedVariables false in
set_option maxRecDepth 100000 in
set_option maxHeartbeats 3200000 in
theorem near_4 (a b c : Nat) (w : World) (ha : a < 65536) (hb : b < 65536) (hc : c < 256) (hk : c % 4 = 3) :
    Calls Tryd.prog 9 #[ .int .u16 a, .int .u16 b, .int .u8 c ] w fun e w' => e = .returned (.bool true) ∧ Below w.heap.size w w' := by
  have hki : (c : Int) % 4 = 3 := by omega
  obtain ⟨wn, hwn⟩ : ∃ wn, a % 32000 = wn := ⟨_, rfl⟩
  obtain ⟨f, hfn⟩ : ∃ f, b % 10000 = f := ⟨_, rfl⟩
  have hwi : (a : Int) % 32000 = (wn : Int) := by omega
  have hfi : (b : Int) % 10000 = (f : Int) := by omega
  have hw32 : wn < 32000 := by omega
  have hf : f < 10000 := by omega
  clear hwn hfn
  go_enter Tryd.func9, Tryd.ntmps9
  go_wp2_with fail
  go_loop [8, 9] (fun t i => ∃ j : Nat, j ≤ 4 ∧ i = .int .i64 j ∧ t = .int .i64 ((10 ^ j : Nat) : Int)) (fun _ i => 4 - (intOf i).toNat)
  case atStart => exact ⟨0, by omega, rfl, rfl⟩
  case round =>
    obtain ⟨j, hj, rfl, rfl⟩ := hrel
    by_cases hlt : j < 4
    · obtain ⟨q1, q2⟩ := pow6 (k := j) (by omega)
      obtain ⟨Q, hQ⟩ : ∃ Q, 10 ^ j = Q := ⟨_, rfl⟩
      rw [hQ] at q1 q2 ⊢
      have HQ := Lib.hid hQ
      clear hQ
      go_wp2_with fail
      go_round
      case rel => exact ⟨j + 1, by omega, by go_num, by rw [Nat.pow_succ, HQ.out]; go_num⟩
      case measure => simp [intOf]; omega
    · obtain rfl : j = 4 := by omega
      rw [show ((10 ^ 4 : Nat) : Int) = 10000 by rfl]
      clear hki hlt hj
      go_wp2_with fail
      go_quiet (fail)
      have B0 := Lib.hid (show Below w.heap.size w (w.drewN nq) from bl_drewN (Below.refl _ _))
      obtain ⟨wr, hwr⟩ : ∃ wr, w.drewN nq = wr := ⟨_, rfl⟩
      rw [hwr] at B0 ⊢
      clear hwr
      go_wp2_with fail
      refine (rDecimal_any wn 1 _ _ _ (by first | rfl | omega) rfl (by omega) (by omega)).mono ?_
      rintro e w1 ⟨j, b1, rfl, hj1, hb1, rfl⟩
      have z1 : b1.size ≤ 5 := by rw [dec_size hb1]; exact dec1 (by omega) hj1
      have J1 := Lib.hid hj1
      have T1 := Lib.hid hb1
      clear hj1 hb1
      go_wp2_with fail
      refine (rDecimal_any f 4 _ _ _ (by first | rfl | omega) rfl (by omega) (by omega)).mono ?_
      rintro e w1 ⟨jf, b2, rfl, hj2, hb2, rfl⟩
      have hjf := decLen_fix (by simpa using hf) hj2
      subst hjf
      have z2 : b2.size ≤ 5 := by rw [dec_size hb2]; omega
      have T2 := Lib.hid hb2
      clear hj2 hb2
      obtain ⟨X, hX⟩ : ∃ X : Nat, wn * 65536 + (2 * f * 65536 + 10 ^ 4) / (2 * 10 ^ 4) = X := ⟨_, rfl⟩
      have hnum : numS (bts (b1 ++ ⟨#[46]⟩ ++ b2)) = some (X : Int) := by
        rw [near_bts T1.out T2.out, ← hX]; exact num_near hw32 J1.out (by omega) (by omega) (by simpa using hf)
      have HNUM := Lib.hid hnum
      obtain ⟨D1, D2⟩ := near_ok (w := wn) (f := f) (n := 4) (by omega) (by omega)
      simp only [hX] at D1 D2
      rw [show ((10 ^ 4 : Nat) : Int) = 10000 by rfl] at D1 D2
      have hXb : X ≤ 2147483648 := by
        rw [← hX, show 10 ^ 4 = 10000 by rfl]
        omega
      clear hX hnum
      go_wp2_with fail
      refine (tNumber_some _ _ _ HNUM.out (near_size z1 z2)).mono ?_
      rintro e w2 ⟨rfl, hb⟩
      have B1 := Lib.hid (bl_next hb B0.out)
      clear hb
      go_wp2_with fail
      refine (awake_any _).mono ?_
      rintro e w3 ⟨rfl, hb⟩
      have B2 := Lib.hid (bl_next hb B1.out)
      clear hb
      go_wp2_with fail
      all_goals
        go_ret
        exact ⟨by first | rfl | (refine ret_bool' ?_; simp; omega), B2.out⟩
theorem TokenNearest_any (a b c : Int) (w : World) (a0 : 0 ≤ a) (a1 : a ≤ 65535) (b0 : 0 ≤ b) (b1 : b ≤ 65535) (c0 : 0 ≤ c) (c1 : c ≤ 255) :
    Calls Tryd.prog 9 #[ .int .u16 a, .int .u16 b, .int .u8 c ] w fun e w' => e = .returned (.bool true) ∧ Below w.heap.size w w' := by
  obtain ⟨a, rfl⟩ : ∃ n : Nat, a = n := ⟨a.toNat, by omega⟩
  obtain ⟨b, rfl⟩ : ∃ n : Nat, b = n := ⟨b.toNat, by omega⟩
  obtain ⟨c, rfl⟩ : ∃ n : Nat, c = n := ⟨c.toNat, by omega⟩
  rcases (show c % 4 = 0 ∨ c % 4 = 1 ∨ c % 4 = 2 ∨ c % 4 = 3 by omega) with h | h | h | h
  · exact near_1 a b c w (by omega) (by omega) (by omega) h
  · exact near_2 a b c w (by omega) (by omega) (by omega) h
  · exact near_3 a b c w (by omega) (by omega) (by omega) h
  · exact near_4 a b c w (by omega) (by omega) (by omega) h
end Go.Proofs.YtmdgofbecmonhaaDoor
