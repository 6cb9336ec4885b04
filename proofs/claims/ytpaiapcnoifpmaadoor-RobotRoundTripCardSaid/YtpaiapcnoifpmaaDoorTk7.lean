/- Proved: the reference's Number returns the number that Tk2 names, and turns nothing. Conditions: as each theorem states. -/
import Derived.Test.YtpaiapcnoifpmaaDoorTk5
namespace Go.Proofs.YtpaiapcnoifpmaaDoor
open Go.RowKit

theorem finN_big {neg : Bool} {v : Nat} (h : 2147483648 < v) : finN neg v = none := if_pos h
theorem finN_neg {v : Nat} (h : v ≤ 2147483648) : finN true v = some (-(v : Int)) := by unfold finN; rw [if_neg (by omega)]; rfl
theorem finN_pos {v : Nat} (h : v ≤ 2147483648) : finN false v = some (v : Int) := by unfold finN; rw [if_neg (by omega)]; rfl
theorem drop_bts (t : ByteArray) (n : Nat) : bts (t.extract n t.size) = (bts t).drop n := by
  rw [bts_extract, List.take_of_length_le (by rw [List.length_drop, bts_len]; omega)]
theorem extract_size (t : ByteArray) (n : Nat) : (t.extract n t.size).size = t.size - n := by
  rw [← bts_len, drop_bts, List.length_drop, bts_len]
theorem pow6 {k : Nat} (h : k ≤ 6) : 1 ≤ 10 ^ k ∧ 10 ^ k ≤ 1000000 := by
  have : (10 : Nat) ^ k ≤ 10 ^ 6 := Nat.pow_le_pow_right (by decide) h
  exact ⟨Nat.pow_pos (by decide), by simpa using this⟩
set_option linter.unusedSimpArgs false in
set_option linter.unusedVariables false in
set_option maxRecDepth 100000 in
set_option maxHeartbeats 800000 in
theorem rNumber_any (s : ByteArray) (w : World) (hs : s.size ≤ maxLen) :
    Calls Tryd.prog 87 #[ .string s ] w fun e w' => e = .returned (.tuple #[.int .i64 (outI (numS (bts s))), .bool (outB (numS (bts s)))]) ∧ w = w' := by
  obtain ⟨t, ht⟩ : ∃ t, sgnX s = t := ⟨_, rfl⟩
  obtain ⟨neg, hneg⟩ : ∃ b, sgnB (bts s) = b := ⟨_, rfl⟩
  obtain ⟨n, x, hd⟩ : ∃ n x, digS (bts t) 0 0 = (n, x) := ⟨_, _, rfl⟩
  obtain ⟨b1, b2, b3⟩ := digS_bd hd
  have hz : t.size ≤ maxLen := by have := sgnX_size s; rw [ht] at this; omega
  have hI : numS (bts s) = if n < 1 ∨ 5 < n then none else fracN neg x ((bts t).drop n) := by
    unfold numS numT
    rw [hneg, ← sgnX_bts, ht, hd]
  have HI := Lib.hid hI
  have HT := Lib.hid ht
  have HN := Lib.hid hneg
  have HD := Lib.hid hd
  have HZ := Lib.hid hz
  have B3 := Lib.hid b3
  unfold maxLen at hz
  clear hI ht hneg hd hs b3
  by_cases h1 : n < 1
  · have HE := Lib.hid (outs_none (HI.out.trans (if_pos (.inl h1))))
    go_enter Tryd.func87, Tryd.ntmps87
    go_wp2_with (first | (go_at_call 85; refine (sign_as _ _ _ _ HT.out HN.out).mono ?_; rintro e w' ⟨rfl, rfl⟩) | (go_at_call 86; refine (digits_as _ _ _ _ HZ.out HD.out).mono ?_; rintro e w' ⟨rfl, rfl⟩))
    go_ret2
    exact ⟨by rw [← HE.out]; rfl, rfl⟩
  · by_cases h2 : 5 < n
    · have HE := Lib.hid (outs_none (HI.out.trans (if_pos (.inr h2))))
      go_enter Tryd.func87, Tryd.ntmps87
      go_wp2_with (first | (go_at_call 85; refine (sign_as _ _ _ _ HT.out HN.out).mono ?_; rintro e w' ⟨rfl, rfl⟩) | (go_at_call 86; refine (digits_as _ _ _ _ HZ.out HD.out).mono ?_; rintro e w' ⟨rfl, rfl⟩))
      go_ret2
      exact ⟨by rw [← HE.out]; rfl, rfl⟩
    · have HI2 := Lib.hid (HI.out.trans (if_neg (by omega)))
      clear HI
      have hx5 : x < 100000 := by
        have := B3.out
        rw [Nat.min_eq_left (by omega)] at this
        have h5 : (10 : Nat) ^ n ≤ 10 ^ 5 := Nat.pow_le_pow_right (by decide) (by omega)
        omega
      clear b2 B3
      obtain ⟨u, hu⟩ : ∃ u, t.extract n t.size = u := ⟨_, rfl⟩
      have hub : bts u = (bts t).drop n := by rw [← hu, drop_bts]
      have hus : u.size = t.size - n := by rw [← hu, extract_size]
      have HU := Lib.hid hu
      have HUB := Lib.hid hub
      have huz : u.size ≤ maxLen := by unfold maxLen; omega
      have HUZ := Lib.hid huz
      unfold maxLen at huz
      clear hub
      by_cases hu0 : u.size = 0
      · have hnil : (bts t).drop n = [] := by rw [← HUB.out]; exact List.eq_nil_of_length_eq_zero (by rw [bts_len]; exact hu0)
        have hF : numS (bts s) = finN neg (x * 65536) := by rw [HI2.out, hnil]; rfl
        have HF := Lib.hid hF
        clear hnil hF hus
        by_cases hb : 2147483648 < x * 65536
        · have HE := Lib.hid (outs_none (HF.out.trans (finN_big hb)))
          go_enter Tryd.func87, Tryd.ntmps87
          go_wp2_with (first | (go_at_call 85; refine (sign_as _ _ _ _ HT.out HN.out).mono ?_; rintro e w' ⟨rfl, rfl⟩) | (go_at_call 86; refine (digits_as _ _ _ _ HZ.out HD.out).mono ?_; rintro e w' ⟨rfl, rfl⟩))
          go_ret2
          exact ⟨by rw [← HE.out]; rfl, rfl⟩
        · cases neg
          · have HE := Lib.hid (outs_some (HF.out.trans (finN_pos (by omega))))
            go_enter Tryd.func87, Tryd.ntmps87
            go_wp2_with (first | (go_at_call 85; refine (sign_as _ _ _ _ HT.out HN.out).mono ?_; rintro e w' ⟨rfl, rfl⟩) | (go_at_call 86; refine (digits_as _ _ _ _ HZ.out HD.out).mono ?_; rintro e w' ⟨rfl, rfl⟩))
            go_ret2
            exact ⟨by rw [← HE.out]; simp, rfl⟩
          · have HE := Lib.hid (outs_some (HF.out.trans (finN_neg (by omega))))
            go_enter Tryd.func87, Tryd.ntmps87
            go_wp2_with (first | (go_at_call 85; refine (sign_as _ _ _ _ HT.out HN.out).mono ?_; rintro e w' ⟨rfl, rfl⟩) | (go_at_call 86; refine (digits_as _ _ _ _ HZ.out HD.out).mono ?_; rintro e w' ⟨rfl, rfl⟩))
            go_ret2
            exact ⟨by rw [← HE.out]; simp, rfl⟩
      · have hu1 : 0 < u.size := by omega
        obtain ⟨y, hy⟩ : ∃ y, u.extract 1 u.size = y := ⟨_, rfl⟩
        have hyb : bts y = (bts u).drop 1 := by rw [← hy, drop_bts]
        have hys : y.size = u.size - 1 := by rw [← hy, extract_size]
        have hyz : y.size ≤ maxLen := by unfold maxLen; omega
        obtain ⟨k, p, hkp⟩ : ∃ k p, digS (bts y) 0 0 = (k, p) := ⟨_, _, rfl⟩
        obtain ⟨c1, c2, c3⟩ := digS_bd hkp
        have hcons : (bts t).drop n = u[0].toNat :: bts y := by
          rw [← HUB.out, hyb]; exact (bts_drop u hu1)
        have hF : numS (bts s) = if u[0].toNat ≠ 46 ∨ k < 1 ∨ 6 < k ∨ k ≠ y.size then none else finN neg (x * 65536 + (2 * p * 65536 + 10 ^ k) / (2 * 10 ^ k)) := by
          rw [HI2.out, hcons, fracN]
          simp only [hkp, bts_len]
        have HY := Lib.hid hy
        have HYZ := Lib.hid hyz
        have HKP := Lib.hid hkp
        have HF := Lib.hid hF
        have C3 := Lib.hid c3
        have hyu : (y.size : Int) = (u.size : Int) - 1 := by omega
        have HYU := Lib.hid hyu
        have hu' := HU.out
        have hy' := HY.out
        clear hyb hcons hF hkp hy hyz hus hyu
        by_cases h46 : u[0].toNat = 46
        · have e46 : (((u[0].toNat : Nat) : Int) != 46) = false := by simp [h46]
          by_cases hk1 : k < 1
          · have HE := Lib.hid (outs_none (HF.out.trans (if_pos (.inr (.inl hk1)))))
            go_enter Tryd.func87, Tryd.ntmps87
            go_wp2_with (first | (go_at_call 85; (with_reducible refine (sign_as _ _ _ _ HT.out HN.out).mono ?_); rintro e w' ⟨rfl, rfl⟩) | (go_at_call 86; (with_reducible refine (digits_as _ _ _ _ HZ.out HD.out).mono ?_); rintro e w' ⟨rfl, rfl⟩) | (go_at_call 86; (with_reducible refine (digits_as _ _ _ _ HYZ.out HKP.out).mono ?_); rintro e w' ⟨rfl, rfl⟩))
            go_ret2
            exact ⟨by rw [← HE.out]; rfl, rfl⟩
          · by_cases hk6 : 6 < k
            · have HE := Lib.hid (outs_none (HF.out.trans (if_pos (.inr (.inr (.inl hk6))))))
              go_enter Tryd.func87, Tryd.ntmps87
              go_wp2_with (first | (go_at_call 85; (with_reducible refine (sign_as _ _ _ _ HT.out HN.out).mono ?_); rintro e w' ⟨rfl, rfl⟩) | (go_at_call 86; (with_reducible refine (digits_as _ _ _ _ HZ.out HD.out).mono ?_); rintro e w' ⟨rfl, rfl⟩) | (go_at_call 86; (with_reducible refine (digits_as _ _ _ _ HYZ.out HKP.out).mono ?_); rintro e w' ⟨rfl, rfl⟩))
              go_ret2
              exact ⟨by rw [← HE.out]; rfl, rfl⟩
            · by_cases hky : k = y.size
              · have HF2 := Lib.hid (HF.out.trans (if_neg (by omega)))
                have n0 : ((k : Int) != (u.size : Int) - 1) = false := by have := HYU.out; simp; omega
                have hp6 : p < 1000000 := by
                  have h5 := C3.out
                  rw [Nat.min_eq_left (by omega)] at h5
                  have := (pow6 (k := k) (by omega)).2
                  omega
                obtain ⟨T, hT⟩ : ∃ T, 10 ^ k = T := ⟨_, rfl⟩
                obtain ⟨T1, T2⟩ := pow6 (k := k) (by omega)
                rw [hT] at T1 T2
                obtain ⟨D, hD⟩ : ∃ D, (2 * p * 65536 + T) / (2 * T) = D := ⟨_, rfl⟩
                have hDb : D ≤ 140000000000 := by rw [← hD]; exact Nat.le_trans (Nat.div_le_self _ _) (by omega)
                have di : (2 * (p : Int) * 65536 + (T : Int)) / (2 * (T : Int)) = (D : Int) := by
                  rw [← hD, Int.natCast_ediv, show ((2 * p * 65536 + T : Nat) : Int) = 2 * (p : Int) * 65536 + (T : Int) by omega, show ((2 * T : Nat) : Int) = 2 * (T : Int) by omega]
                obtain ⟨v, hv⟩ : ∃ v, x * 65536 + D = v := ⟨_, rfl⟩
                have vi : (x : Int) * 65536 + (D : Int) = (v : Int) := by omega
                have HF3 := Lib.hid (show numS (bts s) = finN neg v by rw [HF2.out, hT, hD, hv])
                have HTT := Lib.hid hT
                have VI := Lib.hid vi
                have HDI := Lib.hid di
                clear hT hD hv HF HF2 C3 vi di hky
                go_enter Tryd.func87, Tryd.ntmps87
                go_wp2_with (first | (go_at_call 85; (with_reducible refine (sign_as _ _ _ _ HT.out HN.out).mono ?_); rintro e w' ⟨rfl, rfl⟩) | (go_at_call 86; (with_reducible refine (digits_as _ _ _ _ HZ.out HD.out).mono ?_); rintro e w' ⟨rfl, rfl⟩) | (go_at_call 86; (with_reducible refine (digits_as _ _ _ _ HYZ.out HKP.out).mono ?_); rintro e w' ⟨rfl, rfl⟩))
                go_loop [11, 12] (fun a i => ∃ j : Nat, j ≤ k ∧ i = .int .i64 j ∧ a = .int .i64 ((10 ^ j : Nat) : Int)) (fun _ i => k - (intOf i).toNat)
                case atStart => exact ⟨0, by omega, rfl, rfl⟩
                case round =>
                  obtain ⟨j, hj, rfl, rfl⟩ := hrel
                  by_cases hlt : j < k
                  · obtain ⟨q1, q2⟩ := pow6 (k := j) (by omega)
                    obtain ⟨Q, hQ⟩ : ∃ Q, 10 ^ j = Q := ⟨_, rfl⟩
                    rw [hQ] at q1 q2 ⊢
                    have HQ := Lib.hid hQ
                    clear hQ
                    go_wp2_with fail
                    go_round
                    case rel => exact ⟨j + 1, by omega, by go_num, by rw [Nat.pow_succ, HQ.out]; go_num⟩
                    case measure => simp [intOf]; omega
                  · obtain rfl : j = k := by omega
                    rw [HTT.out]
                    have di := HDI.out
                    by_cases hb : 2147483648 < v
                    · have HE := Lib.hid (outs_none (HF3.out.trans (finN_big hb)))
                      have vb : (2147483648 : Int) < (x : Int) * 65536 + (D : Int) := by have := VI.out; omega
                      go_wp2_with fail
                      go_ret2
                      exact ⟨by rw [← HE.out]; rfl, rfl⟩
                    · have vb : (x : Int) * 65536 + (D : Int) ≤ (2147483648 : Int) := by have := VI.out; omega
                      cases neg
                      · have HE := Lib.hid (outs_some (HF3.out.trans (finN_pos (by omega))))
                        go_wp2_with fail
                        go_ret2
                        exact ⟨by rw [← HE.out, ← VI.out]; rfl, rfl⟩
                      · have HE := Lib.hid (outs_some (HF3.out.trans (finN_neg (by omega))))
                        go_wp2_with fail
                        go_ret2
                        exact ⟨by rw [← HE.out, ← VI.out]; rfl, rfl⟩
              · have HE := Lib.hid (outs_none (HF.out.trans (if_pos (.inr (.inr (.inr hky))))))
                have n0 : ((k : Int) != (u.size : Int) - 1) = true := by have := HYU.out; simp; omega
                go_enter Tryd.func87, Tryd.ntmps87
                go_wp2_with (first | (go_at_call 85; (with_reducible refine (sign_as _ _ _ _ HT.out HN.out).mono ?_); rintro e w' ⟨rfl, rfl⟩) | (go_at_call 86; (with_reducible refine (digits_as _ _ _ _ HZ.out HD.out).mono ?_); rintro e w' ⟨rfl, rfl⟩) | (go_at_call 86; (with_reducible refine (digits_as _ _ _ _ HYZ.out HKP.out).mono ?_); rintro e w' ⟨rfl, rfl⟩))
                go_ret2
                exact ⟨by rw [← HE.out]; rfl, rfl⟩
        · have e46 : (((u[0].toNat : Nat) : Int) != 46) = true := by simp; omega
          have HE := Lib.hid (outs_none (HF.out.trans (if_pos (.inl h46))))
          go_enter Tryd.func87, Tryd.ntmps87
          go_wp2_with (first | (go_at_call 85; (with_reducible refine (sign_as _ _ _ _ HT.out HN.out).mono ?_); rintro e w' ⟨rfl, rfl⟩) | (go_at_call 86; (with_reducible refine (digits_as _ _ _ _ HZ.out HD.out).mono ?_); rintro e w' ⟨rfl, rfl⟩) | (go_at_call 86; (with_reducible refine (digits_as _ _ _ _ HYZ.out HKP.out).mono ?_); rintro e w' ⟨rfl, rfl⟩))
          go_ret2
          exact ⟨by rw [← HE.out]; rfl, rfl⟩
end Go.Proofs.YtpaiapcnoifpmaaDoor
