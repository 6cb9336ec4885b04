/- Proved: the developers' Format returns the text that Tk2 names, and turns nothing that was there before, where the library's table of powers of ten holds what its text lays. Conditions: as each theorem states. -/
import Derived.Test.YtpaiapcnoifpmaaDoorTkH
import Derived.Test.YtpaiapcnoifpmaaDoorTk6
import Derived.Test.YtpaiapcnoifpmaaDoorShelfF
import Derived.Lib.AppendIntMem
import Derived.Lib.TrimByte
namespace Go.Proofs.YtpaiapcnoifpmaaDoor
open Go.RowKit

theorem u8_of {n : Nat} (h : n < 256) : (UInt8.ofNat n).toNat = n := by
  simp; omega
theorem dec_lib (u : Nat) : ∃ j, DecLen u 1 j ∧ (Lib.decDigits u).map UInt8.toNat = decD j u := by
  induction u using Nat.strongRecOn with
  | _ u ih =>
    unfold Lib.decDigits
    by_cases h : u < 10
    · rw [dif_pos h]
      refine ⟨1, ⟨by simpa using h, by decide, .inl rfl⟩, ?_⟩
      rw [List.map_cons, List.map_nil, u8_of (by omega)]
      simp [decD]; omega
    · rw [dif_neg h]
      obtain ⟨j, ⟨h1, h2, h3⟩, h4⟩ := ih (u / 10) (by omega)
      refine ⟨j + 1, ⟨?_, by omega, .inr ⟨by omega, ?_⟩⟩, ?_⟩
      · rw [Nat.pow_succ]; omega
      · rw [Nat.add_sub_cancel]
        rcases h3 with h3 | ⟨h3, h5⟩
        · subst h3; simp; omega
        · have e : j = (j - 1) + 1 := by omega
          rw [e, Nat.pow_succ]
          have : 10 ^ (j - 1) * 10 ≤ u / 10 * 10 := Nat.mul_le_mul_right 10 h5
          omega
      · rw [List.map_append, h4, List.map_cons, List.map_nil, u8_of (by omega)]
        rfl
theorem decD_mod (m n k : Nat) : decD m (n + 10 ^ m * k) = decD m n := by
  induction m generalizing n with
  | zero => rfl
  | succ m ih =>
    rw [decD, decD]
    have e : 10 ^ (m + 1) * k = 10 * (10 ^ m * k) := by rw [Nat.pow_succ, Nat.mul_comm (10 ^ m) 10, Nat.mul_assoc]
    rw [e, show (n + 10 * (10 ^ m * k)) / 10 = n / 10 + 10 ^ m * k by omega, show (n + 10 * (10 ^ m * k)) % 10 = n % 10 by omega, ih]
theorem dec6 {q j : Nat} (h : q < 100000) (hj : DecLen (100000 + q) 1 j) : j = 6 :=
  decLen_one hj ⟨by rw [show (10 : Nat) ^ 6 = 1000000 from rfl]; omega, by decide, .inr ⟨by decide, by rw [show (10 : Nat) ^ (6 - 1) = 100000 from rfl]; omega⟩⟩
theorem dec_tail {q : Nat} {c : ByteArray} (hc : bts c = decD 6 (100000 + q)) : bts (c.extract 1 c.size) = decD 5 q := by
  rw [bts_extract, List.take_of_length_le (by rw [List.length_drop, bts_len]; omega), hc, decD_cons]
  have := decD_mod 5 q 1
  rw [show q + 10 ^ 5 * 1 = 100000 + q by rw [show (10 : Nat) ^ 5 = 100000 from rfl]; omega] at this
  rw [this]; rfl
def Pow10 (w : World) : Prop := Lib.TabBelow Tryd.prog w.heap.size w "internal/strconv.uint64pow10" .u64 Lib.pow10Tab
theorem Pow10.next {w w' : World} (h : Pow10 w) (hb : Below w.heap.size w w') : Pow10 w' := fun W hW => h W (hb.trans (hW.mono hb.size))
theorem fi_any (m : Nat) (mi : Int) (w : World) (hi : mi = m) (hm : m ≤ 1000000000) (hT : Pow10 w) :
    Calls Tryd.prog 96 #[ .int .i64 mi, .int .i64 10 ] w fun e w' => ∃ (j : Nat) (b : ByteArray), e = .returned (.string b) ∧ DecLen m 1 j ∧ bts b = decD j m ∧ Below w.heap.size w w' := by
  refine (Tryd.strconv_FormatInt_10 mi (by omega) (by omega) w hT.here).mono ?_
  rintro e w' ⟨rfl, k, os, rfl⟩
  obtain ⟨j, h1, h2⟩ := dec_lib m
  refine ⟨j, _, rfl, h1, ?_, Lib.below_grow _ _ (Nat.le_refl _) _ _⟩
  rw [bts_mk, ← h2]
  subst hi
  unfold Lib.itoa
  rw [if_neg (by omega)]
  rfl
theorem tr_any (s : ByteArray) (w : World) (hs : s.size ≤ maxLen) :
    Calls Tryd.prog 102 #[ .string s, .string ⟨#[48]⟩ ] w fun e w' => ∃ d : ByteArray, e = .returned (.string d) ∧ bts d = trimZ (bts s) ∧ w = w' := by
  refine (Tryd.strings_TrimRight_one s 48 (by decide) w hs).mono ?_
  rintro e w' ⟨rfl, rfl⟩
  refine ⟨_, rfl, ?_, rfl⟩
  rw [bts_mk]
  unfold Lib.trimRightB trimZ bts
  have key : ∀ l : List UInt8, (l.dropWhile (fun x => x == 48)).map UInt8.toNat = (l.map UInt8.toNat).dropWhile (fun c => decide (c = 48)) := by
    intro l
    induction l with
    | nil => rfl
    | cons c l ih =>
      by_cases h : c = 48
      · subst h
        rw [List.dropWhile_cons_of_pos (by simp), List.map_cons, List.dropWhile_cons_of_pos (by simp), ih]
      · have h' : c.toNat ≠ 48 := fun e => h (UInt8.toNat_inj.1 e)
        rw [List.dropWhile_cons_of_neg (by simp [h]), List.map_cons, List.dropWhile_cons_of_neg (by simp [h'])]
  rw [List.map_reverse, key, List.map_reverse]
theorem trim_size {b : ByteArray} {q : Nat} (h : bts b = trimZ (decD 5 q)) : b.size ≤ 5 := by
  rw [← bts_len, h]
  obtain ⟨k, hk, ht, _⟩ := trimZ_take (decD 5 q)
  rw [ht, List.length_take]
  rw [decD_len] at hk
  omega
def FmtB (x : Int) (w : World) (e : Ending) (w' : World) : Prop := ∃ b : ByteArray, e = .returned (.string b) ∧ FmtOf x (bts b) ∧ Below w.heap.size w w'
set_option linter.unusedSimpArgs false in
set_option linter.unusedVariables false in
set_option maxRecDepth 100000 in
set_option maxHeartbeats 6400000 in
theorem tFormat_pos0 (X m : Nat) (w : World) (hT : Pow10 w) (h1 : X < 2147483648) (hm : X / 65536 = m) (hf : X % 65536 = 0) :
    Calls Tryd.prog 95 #[ .int .i64 ((X : Int)) ] w (FmtB ((X : Int)) w) := by
  have HM := Lib.hid hm
  have HF := Lib.hid hf
  have em : (X : Int) / 65536 = (m : Int) := by omega
  have HE := Lib.hid em
  have hm5 : m ≤ 32768 := by omega
  have ef : (X : Int) % 65536 = ((0 : Nat) : Int) := by omega
  obtain ⟨f, hf0⟩ : ∃ f, f = 0 := ⟨0, rfl⟩
  rw [← hf0] at ef
  have e0 : ((f : Int) == 0) = true := by simp; omega
  have HF0 := Lib.hid hf0
  clear hf0
  clear hm hf em
  have mm : max (X : Int) (-2147483648) = X := by omega
  have mn : min (X : Int) 2147483648 = X := by omega
  have HTT := Lib.hid hT
  clear hT
  go_enter Tryd.func95, Tryd.ntmps95
  go_wp2_with fail
  refine (fi_any m _ _ HE.out (by omega) HTT.out).mono ?_
  rintro e w1 ⟨j, b, rfl, hj, hb, hB⟩
  have hb5 : b.size ≤ 5 := by rw [dec_size hb]; exact dec1 hm5 hj
  have HJ := Lib.hid hj
  have HB := Lib.hid hb
  have HB1 := Lib.hid hB
  clear hj hb hB
  go_wp2_with fail
  go_ret
  have hsg : (if (X : Int) < 0 then [45] else []) = ([] : List Nat) := if_neg (by omega)
  exact ⟨_, rfl, fmt_txt (X := X) (by omega) HM.out HF.out HJ.out (by rw [hsg]; simp only [bts_append, bts_empty, bts_minus, HB.out]; simp [fracS]), HB1.out⟩
set_option linter.unusedSimpArgs false in
set_option linter.unusedVariables false in
set_option maxRecDepth 100000 in
set_option maxHeartbeats 6400000 in
theorem tFormat_pos1 (X m f q : Nat) (w : World) (hT : Pow10 w) (h1 : X < 2147483648) (hm : X / 65536 = m) (hf : X % 65536 = f) (hf0 : f ≠ 0) (hq : fracQ f = q) :
    Calls Tryd.prog 95 #[ .int .i64 ((X : Int)) ] w (FmtB ((X : Int)) w) := by
  have HM := Lib.hid hm
  have HF := Lib.hid hf
  have em : (X : Int) / 65536 = (m : Int) := by omega
  have HE := Lib.hid em
  have hm5 : m ≤ 32768 := by omega
  have ef : (X : Int) % 65536 = (f : Int) := by omega
  have e0 : ((f : Int) == 0) = false := by simp; omega
  have hf6 : f < 65536 := by omega
  have qb := fracQ_bd hf0 hf6
  rw [hq] at qb
  obtain ⟨q1, q2⟩ := qb
  have hnq : nearQ (f * 100000) 65536 = q := by rw [← hq]; unfold nearQ fracQ; rw [show 2 * (f * 100000) = 2 * f * 100000 by omega]
  have HNQ := Lib.hid hnq
  have HQ := Lib.hid hq
  clear hm hf em hq hnq
  have mm : max (X : Int) (-2147483648) = X := by omega
  have mn : min (X : Int) 2147483648 = X := by omega
  have HTT := Lib.hid hT
  clear hT
  go_enter Tryd.func95, Tryd.ntmps95
  go_wp2_with fail
  refine (fi_any m _ _ HE.out (by omega) HTT.out).mono ?_
  rintro e w1 ⟨j, b, rfl, hj, hb, hB⟩
  have hb5 : b.size ≤ 5 := by rw [dec_size hb]; exact dec1 hm5 hj
  have HJ := Lib.hid hj
  have HB := Lib.hid hb
  have HB1 := Lib.hid hB
  clear hj hb hB
  have hq18 : f * 100000 ≤ 1000000000000000000 := by omega
  go_wp2_with (go_at_call 99; (with_reducible refine (nearest_as (f * 100000) 65536 q _ _ _ hq18 (by omega) (by omega) (by omega) (by omega) HNQ.out).mono ?_); rintro e w' ⟨rfl, rfl⟩)
  refine (fi_any (100000 + q) _ _ (by omega) (by omega) (HTT.out.next HB1.out)).mono ?_
  rintro e w2 ⟨j6, c, rfl, hj, hc, hB⟩
  have j6e := dec6 q2 hj
  subst j6e
  have hc6 := dec_size hc
  have HC : Hid (bts (c.extract 1 6) = decD 5 q) := Lib.hid (by have h := dec_tail hc; rwa [hc6] at h)
  have HB2 := Lib.hid (bl_next hB HB1.out)
  clear hj hc hB
  have k1 : (1 : Int) ≤ (c.size : Int) := by omega
  go_wp2_with fail
  refine (tr_any _ _ (by rw [ByteArray.size_extract]; unfold maxLen; omega)).mono ?_
  rintro e w3 ⟨d, rfl, hd, rfl⟩
  have hdd : bts d = trimZ (decD 5 q) := by rw [hd, HC.out]
  have hd5 := trim_size hdd
  have HD := Lib.hid hdd
  clear hd hdd
  go_wp2_with fail
  go_ret
  have hsg : (if (X : Int) < 0 then [45] else []) = ([] : List Nat) := if_neg (by omega)
  exact ⟨_, rfl, fmt_txt (X := X) (by omega) HM.out HF.out HJ.out (by rw [hsg]; simp only [bts_append, bts_empty, bts_minus, bts_point, HB.out, HD.out, fracS, if_neg hf0, HQ.out]; simp), HB2.out⟩
set_option linter.unusedSimpArgs false in
set_option linter.unusedVariables false in
set_option maxRecDepth 100000 in
set_option maxHeartbeats 6400000 in
theorem tFormat_neg0 (X m : Nat) (w : World) (hT : Pow10 w) (h0 : 0 < X) (h1 : X < 2147483648) (hm : X / 65536 = m) (hf : X % 65536 = 0) :
    Calls Tryd.prog 95 #[ .int .i64 (-(X : Int)) ] w (FmtB (-(X : Int)) w) := by
  have HM := Lib.hid hm
  have HF := Lib.hid hf
  have em : (X : Int) / 65536 = (m : Int) := by omega
  have HE := Lib.hid em
  have hm5 : m ≤ 32768 := by omega
  have ef : (X : Int) % 65536 = ((0 : Nat) : Int) := by omega
  obtain ⟨f, hf0⟩ : ∃ f, f = 0 := ⟨0, rfl⟩
  rw [← hf0] at ef
  have e0 : ((f : Int) == 0) = true := by simp; omega
  have HF0 := Lib.hid hf0
  clear hf0
  clear hm hf em
  have mn : min (X : Int) 2147483648 = X := by omega
  have mk : min (-(X : Int)) 2147483648 = -(X : Int) := by omega
  have HTT := Lib.hid hT
  clear hT
  go_enter Tryd.func95, Tryd.ntmps95
  go_wp2_with fail
  refine (fi_any m _ _ HE.out (by omega) HTT.out).mono ?_
  rintro e w1 ⟨j, b, rfl, hj, hb, hB⟩
  have hb5 : b.size ≤ 5 := by rw [dec_size hb]; exact dec1 hm5 hj
  have HJ := Lib.hid hj
  have HB := Lib.hid hb
  have HB1 := Lib.hid hB
  clear hj hb hB
  go_wp2_with fail
  go_ret
  have hsg : (if -(X : Int) < 0 then [45] else []) = ([45] : List Nat) := if_pos (by omega)
  exact ⟨_, rfl, fmt_txt (X := X) (by omega) HM.out HF.out HJ.out (by rw [hsg]; simp only [bts_append, bts_empty, bts_minus, HB.out]; simp [fracS]), HB1.out⟩
set_option linter.unusedSimpArgs false in
set_option linter.unusedVariables false in
set_option maxRecDepth 100000 in
set_option maxHeartbeats 6400000 in
theorem tFormat_neg1 (X m f q : Nat) (w : World) (hT : Pow10 w) (h0 : 0 < X) (h1 : X < 2147483648) (hm : X / 65536 = m) (hf : X % 65536 = f) (hf0 : f ≠ 0) (hq : fracQ f = q) :
    Calls Tryd.prog 95 #[ .int .i64 (-(X : Int)) ] w (FmtB (-(X : Int)) w) := by
  have HM := Lib.hid hm
  have HF := Lib.hid hf
  have em : (X : Int) / 65536 = (m : Int) := by omega
  have HE := Lib.hid em
  have hm5 : m ≤ 32768 := by omega
  have ef : (X : Int) % 65536 = (f : Int) := by omega
  have e0 : ((f : Int) == 0) = false := by simp; omega
  have hf6 : f < 65536 := by omega
  have qb := fracQ_bd hf0 hf6
  rw [hq] at qb
  obtain ⟨q1, q2⟩ := qb
  have hnq : nearQ (f * 100000) 65536 = q := by rw [← hq]; unfold nearQ fracQ; rw [show 2 * (f * 100000) = 2 * f * 100000 by omega]
  have HNQ := Lib.hid hnq
  have HQ := Lib.hid hq
  clear hm hf em hq hnq
  have mn : min (X : Int) 2147483648 = X := by omega
  have mk : min (-(X : Int)) 2147483648 = -(X : Int) := by omega
  have HTT := Lib.hid hT
  clear hT
  go_enter Tryd.func95, Tryd.ntmps95
  go_wp2_with fail
  refine (fi_any m _ _ HE.out (by omega) HTT.out).mono ?_
  rintro e w1 ⟨j, b, rfl, hj, hb, hB⟩
  have hb5 : b.size ≤ 5 := by rw [dec_size hb]; exact dec1 hm5 hj
  have HJ := Lib.hid hj
  have HB := Lib.hid hb
  have HB1 := Lib.hid hB
  clear hj hb hB
  have hq18 : f * 100000 ≤ 1000000000000000000 := by omega
  go_wp2_with (go_at_call 99; (with_reducible refine (nearest_as (f * 100000) 65536 q _ _ _ hq18 (by omega) (by omega) (by omega) (by omega) HNQ.out).mono ?_); rintro e w' ⟨rfl, rfl⟩)
  refine (fi_any (100000 + q) _ _ (by omega) (by omega) (HTT.out.next HB1.out)).mono ?_
  rintro e w2 ⟨j6, c, rfl, hj, hc, hB⟩
  have j6e := dec6 q2 hj
  subst j6e
  have hc6 := dec_size hc
  have HC : Hid (bts (c.extract 1 6) = decD 5 q) := Lib.hid (by have h := dec_tail hc; rwa [hc6] at h)
  have HB2 := Lib.hid (bl_next hB HB1.out)
  clear hj hc hB
  have k1 : (1 : Int) ≤ (c.size : Int) := by omega
  go_wp2_with fail
  refine (tr_any _ _ (by rw [ByteArray.size_extract]; unfold maxLen; omega)).mono ?_
  rintro e w3 ⟨d, rfl, hd, rfl⟩
  have hdd : bts d = trimZ (decD 5 q) := by rw [hd, HC.out]
  have hd5 := trim_size hdd
  have HD := Lib.hid hdd
  clear hd hdd
  go_wp2_with fail
  go_ret
  have hsg : (if -(X : Int) < 0 then [45] else []) = ([45] : List Nat) := if_pos (by omega)
  exact ⟨_, rfl, fmt_txt (X := X) (by omega) HM.out HF.out HJ.out (by rw [hsg]; simp only [bts_append, bts_empty, bts_minus, bts_point, HB.out, HD.out, fracS, if_neg hf0, HQ.out]; simp), HB2.out⟩
set_option linter.unusedSimpArgs false in
set_option linter.unusedVariables false in
set_option maxRecDepth 100000 in
set_option maxHeartbeats 6400000 in
theorem tFormat_low (n : Int) (w : World) (hT : Pow10 w) (h1 : -9223372036854775808 ≤ n) (h2 : n ≤ -2147483648) :
    Calls Tryd.prog 95 #[ .int .i64 n ] w (FmtB (-2147483648) w) := by
  have HTT := Lib.hid hT
  clear hT
  have mm : (max n (-2147483648)) = -2147483648 := by omega
  have mn : min (-2147483648 : Int) 2147483648 = -2147483648 := by omega
  have w0 : wrap64 32768 = 32768 := by unfold wrap64; omega
  have w1 : wrap64 2147483648 = 2147483648 := by unfold wrap64; omega
  go_enter Tryd.func95, Tryd.ntmps95
  go_wp2_with fail
  refine (fi_any 32768 _ _ (by decide) (by omega) HTT.out).mono ?_
  rintro e w1 ⟨j, b, rfl, hj, hb, hB⟩
  have hb5 : b.size ≤ 5 := by rw [dec_size hb]; exact dec1 (by omega) hj
  have HJ := Lib.hid hj
  have HB := Lib.hid hb
  have HB1 := Lib.hid hB
  clear hj hb hB
  go_wp2_with fail
  go_ret
  exact ⟨_, rfl, fmt_txt (X := 2147483648) rfl rfl rfl HJ.out (by rw [if_pos (by decide)]; simp only [bts_append, bts_empty, bts_minus, HB.out]; simp [fracS]), HB1.out⟩
set_option linter.unusedSimpArgs false in
set_option linter.unusedVariables false in
set_option maxRecDepth 100000 in
set_option maxHeartbeats 6400000 in
theorem tFormat_high (n : Int) (w : World) (hT : Pow10 w) (h1 : 2147483648 ≤ n) (h2 : n ≤ 9223372036854775807) :
    Calls Tryd.prog 95 #[ .int .i64 n ] w (FmtB (2147483648) w) := by
  have HTT := Lib.hid hT
  clear hT
  have mm : (max n (-2147483648)) = n := by omega
  have mn : min n 2147483648 = 2147483648 := by omega
  have w0 : wrap64 32768 = 32768 := by unfold wrap64; omega
  have w1 : wrap64 2147483648 = 2147483648 := by unfold wrap64; omega
  go_enter Tryd.func95, Tryd.ntmps95
  go_wp2_with fail
  refine (fi_any 32768 _ _ (by decide) (by omega) HTT.out).mono ?_
  rintro e w1 ⟨j, b, rfl, hj, hb, hB⟩
  have hb5 : b.size ≤ 5 := by rw [dec_size hb]; exact dec1 (by omega) hj
  have HJ := Lib.hid hj
  have HB := Lib.hid hb
  have HB1 := Lib.hid hB
  clear hj hb hB
  go_wp2_with fail
  go_ret
  exact ⟨_, rfl, fmt_txt (X := 2147483648) rfl rfl rfl HJ.out (by rw [if_neg (by decide)]; simp only [bts_append, bts_empty, bts_minus, HB.out]; simp [fracS]), HB1.out⟩
theorem tFormat_any (n : Int) (w : World) (hT : Pow10 w) (h1 : -9223372036854775808 ≤ n) (h2 : n ≤ 9223372036854775807) :
    Calls Tryd.prog 95 #[ .int .i64 n ] w (FmtB (max (-2147483648) (min n 2147483648)) w) := by
  by_cases hl : n ≤ -2147483648
  · rw [show max (-2147483648) (min n 2147483648) = -2147483648 by omega]; exact tFormat_low n w hT h1 hl
  · by_cases hh : 2147483648 ≤ n
    · rw [show max (-2147483648) (min n 2147483648) = 2147483648 by omega]; exact tFormat_high n w hT hh h2
    · rw [show max (-2147483648) (min n 2147483648) = n by omega]
      by_cases hn : n < 0
      · obtain ⟨X, rfl⟩ : ∃ X : Nat, n = -(X : Int) := ⟨n.natAbs, by omega⟩
        by_cases h0 : X % 65536 = 0
        · exact tFormat_neg0 X _ w hT (by omega) (by omega) rfl h0
        · exact tFormat_neg1 X _ _ _ w hT (by omega) (by omega) rfl rfl h0 rfl
      · obtain ⟨X, rfl⟩ : ∃ X : Nat, n = (X : Int) := ⟨n.natAbs, by omega⟩
        by_cases h0 : X % 65536 = 0
        · exact tFormat_pos0 X _ w hT (by omega) rfl h0
        · exact tFormat_pos1 X _ _ _ w hT (by omega) rfl rfl h0 rfl
end Go.Proofs.YtpaiapcnoifpmaaDoor
