/- Proved: the reference's Decimal and Format return the texts that Tk2 names, and turn nothing. Conditions: as each theorem states. -/
import Derived.Test.YtpaiapcnoifpmaaDoorTk5
namespace Go.Proofs.YtpaiapcnoifpmaaDoor
open Go.RowKit

def strLen : Value → Nat
  | .string b => b.size
  | _ => 0
@[simp] theorem strLen_string (b : ByteArray) : strLen (.string b) = b.size := rfl
def digitsB : ByteArray := ⟨#[48, 49, 50, 51, 52, 53, 54, 55, 56, 57]⟩
theorem digit_at (d : Nat) (h : d < 10) : bts ((⟨#[48, 49, 50, 51, 52, 53, 54, 55, 56, 57]⟩ : ByteArray).extract d (d + 1)) = [48 + d] := by
  rw [bts_extract]
  match d, h with
  | 0, _ => rfl
  | 1, _ => rfl
  | 2, _ => rfl
  | 3, _ => rfl
  | 4, _ => rfl
  | 5, _ => rfl
  | 6, _ => rfl
  | 7, _ => rfl
  | 8, _ => rfl
  | 9, _ => rfl
def DecTxt (n k : Nat) (w : World) (e : Ending) (w' : World) : Prop := ∃ (j : Nat) (b : ByteArray), e = .returned (.string b) ∧ DecLen n k j ∧ bts b = decD j n ∧ w = w'
/-- One digit more. -/
theorem dec_step {n m k : Nat} {b : ByteArray} (hm : n / 10 ^ b.size = m) (hb : bts b = decD b.size n) (hg : 0 < m ∨ b.size < k) :
    n / 10 ^ ((⟨#[48, 49, 50, 51, 52, 53, 54, 55, 56, 57]⟩ : ByteArray).extract (m % 10) (m % 10 + 1) ++ b).size = m / 10 ∧
    bts ((⟨#[48, 49, 50, 51, 52, 53, 54, 55, 56, 57]⟩ : ByteArray).extract (m % 10) (m % 10 + 1) ++ b) = decD ((⟨#[48, 49, 50, 51, 52, 53, 54, 55, 56, 57]⟩ : ByteArray).extract (m % 10) (m % 10 + 1) ++ b).size n ∧
    ((⟨#[48, 49, 50, 51, 52, 53, 54, 55, 56, 57]⟩ : ByteArray).extract (m % 10) (m % 10 + 1) ++ b).size = b.size + 1 ∧
    (b.size + 1 ≤ k ∨ 10 ^ b.size ≤ n) := by
  have e1 := digit_at (m % 10) (by omega)
  have e2 : bts ((⟨#[48, 49, 50, 51, 52, 53, 54, 55, 56, 57]⟩ : ByteArray).extract (m % 10) (m % 10 + 1) ++ b) = decD (b.size + 1) n := by
    rw [bts_append, e1, hb, decD_cons, hm]; rfl
  have e3 : ((⟨#[48, 49, 50, 51, 52, 53, 54, 55, 56, 57]⟩ : ByteArray).extract (m % 10) (m % 10 + 1) ++ b).size = b.size + 1 := by
    rw [← bts_len, e2, decD_len]
  refine ⟨?_, by rw [e3]; exact e2, e3, ?_⟩
  · rw [e3, Nat.pow_succ, ← Nat.div_div_eq_div_mul, hm]
  · rcases hg with h | h
    · right
      apply Decidable.byContradiction
      intro hc
      rw [Nat.div_eq_of_lt (by omega)] at hm
      omega
    · left; omega
theorem dec_done {n k : Nat} {b : ByteArray} (hm : n / 10 ^ b.size = 0) (hk : k ≤ b.size) (hg : b.size ≤ k ∨ (1 ≤ b.size ∧ 10 ^ (b.size - 1) ≤ n)) : DecLen n k b.size := by
  refine ⟨?_, hk, ?_⟩
  · have := Nat.div_eq_zero_iff.1 hm
    rcases this with h | h
    · have : 0 < 10 ^ b.size := Nat.pow_pos (by decide)
      omega
    · exact h
  · rcases hg with h | h
    · left; omega
    · right; exact h
set_option linter.unusedSimpArgs false in
set_option linter.unusedVariables false in
set_option maxHeartbeats 3200000 in
theorem rDecimal_any (n k : Nat) (a c : Int) (w : World) (ha : a = n) (hc : c = k) (hn : n ≤ 1000000000000000) (hk : k ≤ 100) :
    Calls Tryd.prog 29 #[ .int .i64 a, .int .i64 c ] w (DecTxt n k w) := by
  subst ha
  subst hc
  go_enter Tryd.func29, Tryd.ntmps29
  go_wp2
  go_loop [0, 5] (fun x s => ∃ (m : Nat) (b : ByteArray), x = .int .i64 m ∧ s = .string b ∧ n / 10 ^ b.size = m ∧ bts b = decD b.size n ∧ (b.size ≤ k ∨ (1 ≤ b.size ∧ 10 ^ (b.size - 1) ≤ n))) (fun x s => (intOf x).toNat + (k - strLen s))
  case atStart => exact ⟨n, ByteArray.empty, rfl, rfl, by simp, rfl, .inl (Nat.zero_le _)⟩
  case round =>
    obtain ⟨m, b, rfl, rfl, hm, hb, hg⟩ := hrel
    have hml : m ≤ 1000000000000000 := by rw [← hm]; exact Nat.le_trans (Nat.div_le_self _ _) hn
    have hbl : b.size ≤ 1000000000000101 := by
      rcases hg with h | ⟨h1, h2⟩
      · omega
      · have : b.size - 1 < 10 ^ (b.size - 1) := Nat.lt_pow_self (by decide)
        omega
    have HM := Lib.hid hm
    have HB := Lib.hid hb
    have HG := Lib.hid hg
    clear hm hb hg
    have d0 : decide ((b.size : Int) < (k : Int)) = decide (b.size < k) := by
      by_cases h : b.size < k
      · rw [decide_eq_true h, decide_eq_true (by omega)]
      · rw [decide_eq_false h, decide_eq_false (by omega)]
    by_cases h1 : 0 < m
    · have S := Lib.hid (dec_step HM.out HB.out (.inl h1 : 0 < m ∨ b.size < k))
      have sl : ∀ w : World, (Instr.slice 9 (.string ⟨#[48, 49, 50, 51, 52, 53, 54, 55, 56, 57]⟩) (some (.int .i64 ((m : Nat) % 10))) (some (.int .i64 ((m : Nat) % 10 + 1))) none).run Tryd.prog w = .ok (.string ((⟨#[48, 49, 50, 51, 52, 53, 54, 55, 56, 57]⟩ : ByteArray).extract (m % 10) (m % 10 + 1))) w := fun w => by
        have := run_slice_string (P := Tryd.prog) w 9 ⟨#[48, 49, 50, 51, 52, 53, 54, 55, 56, 57]⟩ .i64 .i64 ((m : Nat) % 10) ((m : Nat) % 10 + 1) (by kernel_rfl) (by omega) (by omega) (by show _ ≤ ((10 : Nat) : Int); omega)
        rw [this]; congr 3
      clear d0
      go_wp2
      go_round
      case rel =>
        obtain ⟨s1, s2, s3, s4⟩ := S.out
        refine ⟨m / 10, _, by go_num, rfl, ?_⟩
        exact ⟨s1, s2, by rw [s3]; rcases s4 with h | h; exact .inl h; exact .inr ⟨by omega, h⟩⟩
      case measure =>
        obtain ⟨_, _, s3, _⟩ := S.out
        simp [intOf] at s3 ⊢
        omega
    · have hm0 : m = 0 := by omega
      subst hm0
      by_cases h2 : b.size < k
      · have S := Lib.hid (dec_step HM.out HB.out (.inr h2))
        clear d0
        go_wp2
        go_round
        case rel =>
          obtain ⟨s1, s2, s3, s4⟩ := S.out
          refine ⟨0, _, by go_num, rfl, ?_⟩
          exact ⟨s1, s2, by rw [s3]; rcases s4 with h | h; exact .inl h; exact .inr ⟨by omega, h⟩⟩
        case measure =>
          obtain ⟨_, _, s3, _⟩ := S.out
          simp [intOf] at s3 ⊢
          omega
      · clear d0
        go_wp2
        go_ret
        exact ⟨b.size, b, rfl, dec_done HM.out (by omega) HG.out, HB.out, rfl⟩
theorem last_split (b : ByteArray) (h : 0 < b.size) : bts b = bts (b.extract 0 (b.size - 1)) ++ [(b[b.size - 1]'(by omega)).toNat] := by
  rw [bts_extract, List.drop_zero, Nat.sub_zero]
  have e : (bts b).length = (b.size - 1) + 1 := by rw [bts_len]; omega
  have := List.take_succ_eq_append_getElem (l := bts b) (i := b.size - 1) (by omega)
  rw [bts_get b (by omega), ← e, List.take_length] at this
  exact this
def FmtTxt (x : Int) (w : World) (e : Ending) (w' : World) : Prop := ∃ b : ByteArray, e = .returned (.string b) ∧ FmtOf x (bts b) ∧ w = w'
theorem trimZ_ne {q : Nat} (h1 : 1 ≤ q) (h2 : q < 100000) : trimZ (decD 5 q) ≠ [] := by
  obtain ⟨k, hk, ht, hz⟩ := trimZ_take (decD 5 q)
  intro h
  rw [ht] at h
  rw [decD_len] at hk
  have : k = 0 := by
    have := congrArg List.length h
    rw [List.length_take, decD_len] at this
    simp at this; omega
  subst this
  have hv := valD_zero _ hz
  rw [List.drop_zero, decD_val 5 q (by simpa using h2)] at hv
  omega
theorem fmt_mk {x : Int} {X m f : Nat} {sg b c : ByteArray} (hX : x.natAbs = X) (hm : X / 65536 = m) (hf : X % 65536 = f) {j : Nat} (hsg : bts sg = if x < 0 then [45] else []) (hj : DecLen m 1 j) (hb : bts b = decD j m) (hc : bts c = fracS f) :
    FmtOf x (bts (sg ++ b ++ c)) := by
  subst hX hm hf
  exact ⟨j, hj, by rw [bts_append, bts_append, hsg, hb, hc]⟩
theorem bts_empty : bts (⟨#[]⟩ : ByteArray) = [] := rfl
theorem bts_minus : bts (⟨#[45]⟩ : ByteArray) = [45] := rfl
theorem bts_point : bts (⟨#[46]⟩ : ByteArray) = [46] := rfl
/-- What Format writes: a sign, the digits, and what stands behind them. -/
theorem fmt_txt {x : Int} {X m f j : Nat} {r : ByteArray} (hX : x.natAbs = X) (hm : X / 65536 = m) (hf : X % 65536 = f) (hj : DecLen m 1 j) (hr : bts r = (if x < 0 then [45] else []) ++ decD j m ++ fracS f) : FmtOf x (bts r) := by
  subst hX hm hf
  exact ⟨j, hj, hr⟩
theorem trimZ_nil : trimZ [] = [] := rfl
theorem dec_size {b : ByteArray} {j m : Nat} (h : bts b = decD j m) : b.size = j := by rw [← bts_len, h, decD_len]
theorem dec5 {q j : Nat} (h : q < 100000) (hj : DecLen q 5 j) : j = 5 := decLen_one hj ⟨by simpa using h, Nat.le_refl _, .inl rfl⟩
theorem dec1 {m j : Nat} (h : m ≤ 32768) (hj : DecLen m 1 j) : j ≤ 5 := by
  obtain ⟨j', h', _, h5⟩ := decLen_five (n := m) (by omega)
  rw [decLen_one hj h']; exact h5
set_option linter.unusedSimpArgs false in
set_option linter.unusedVariables false in
set_option maxRecDepth 100000 in
set_option maxHeartbeats 6400000 in
theorem rFormat_neg0 (X m : Nat) (w : World) (h0 : 0 < X) (h9 : X < 2147483648) (h1 : X ≤ 2147483648) (hm : X / 65536 = m) (hf : X % 65536 = 0) :
    Calls Tryd.prog 71 #[ .int .i64 (-(X : Int)) ] w (FmtTxt (-(X : Int)) w) := by
  have HM := Lib.hid hm
  have HF := Lib.hid hf
  have em : (X : Int) / 65536 = (m : Int) := by omega
  have HE := Lib.hid em
  have ef : (X : Int) % 65536 = ((0 : Nat) : Int) := by omega
  obtain ⟨f, hf0⟩ : ∃ f, f = 0 := ⟨0, rfl⟩
  rw [← hf0] at ef
  have e0 : ((f : Int) == 0) = true := by simp; omega
  have HF0 := Lib.hid hf0
  clear hf0
  have hm5 : m ≤ 32768 := by omega
  clear hm hf em
  go_enter Tryd.func71, Tryd.ntmps71
  go_wp2_with fail
  refine (rDecimal_any m 1 _ _ _ HE.out rfl (by omega) (by omega)).mono ?_
  rintro e w1 ⟨j, b, rfl, hj, hb, rfl⟩
  have hb5 : b.size ≤ 5 := by rw [dec_size hb]; exact dec1 hm5 hj
  have HJ := Lib.hid hj
  have HB := Lib.hid hb
  clear hj hb
  go_wp2_with fail
  go_ret
  have hsg : (if -(X : Int) < 0 then [45] else []) = ([45] : List Nat) := if_pos (by omega)
  exact ⟨_, rfl, fmt_txt (X := X) (by omega) HM.out HF.out HJ.out (by rw [hsg]; simp only [bts_append, bts_empty, bts_minus, HB.out]; simp [fracS]), rfl⟩
set_option linter.unusedSimpArgs false in
set_option linter.unusedVariables false in
set_option maxRecDepth 100000 in
set_option maxHeartbeats 6400000 in
theorem rFormat_neg1 (X m f q : Nat) (w : World) (h0 : 0 < X) (h9 : X < 2147483648) (h1 : X ≤ 2147483648) (hm : X / 65536 = m) (hf : X % 65536 = f) (hf0 : f ≠ 0) (hq : fracQ f = q) :
    Calls Tryd.prog 71 #[ .int .i64 (-(X : Int)) ] w (FmtTxt (-(X : Int)) w) := by
  have HM := Lib.hid hm
  have HF := Lib.hid hf
  have em : (X : Int) / 65536 = (m : Int) := by omega
  have HE := Lib.hid em
  have ef : (X : Int) % 65536 = (f : Int) := by omega
  have e0 : ((f : Int) == 0) = false := by simp; omega
  have hm5 : m ≤ 32768 := by omega
  have hf6 : f < 65536 := by omega
  have qb := fracQ_bd hf0 hf6
  rw [hq] at qb
  obtain ⟨q1, q2⟩ := qb
  have eq : (2 * (f : Int) * 100000 + 65536) / 131072 = (q : Int) := by rw [← hq]; unfold fracQ; omega
  have EQ := Lib.hid eq
  have HQ := Lib.hid hq
  have HT := Lib.hid (trimZ_ne q1 q2)
  clear hm hf em eq hq
  go_enter Tryd.func71, Tryd.ntmps71
  go_wp2_with fail
  refine (rDecimal_any m 1 _ _ _ HE.out rfl (by omega) (by omega)).mono ?_
  rintro e w1 ⟨j, b, rfl, hj, hb, rfl⟩
  have hb5 : b.size ≤ 5 := by rw [dec_size hb]; exact dec1 hm5 hj
  have HJ := Lib.hid hj
  have HB := Lib.hid hb
  clear hj hb
  go_wp2_with fail
  refine (rDecimal_any q 5 _ _ _ (by have := EQ.out; omega) rfl (by omega) (by omega)).mono ?_
  rintro e w1 ⟨j5, c, rfl, hj, hc, rfl⟩
  have j5e := dec5 q2 hj
  subst j5e
  have hc5 := dec_size hc
  have HC := Lib.hid hc
  have HC5 := Lib.hid hc5
  clear hj hc hc5
  go_wp2_with fail
  go_loop [6] (fun s => ∃ c : ByteArray, s = .string c ∧ trimZ (bts c) = trimZ (decD 5 q) ∧ c.size ≤ 5) (fun s => strLen s)
  case atStart => exact ⟨c, rfl, by rw [HC.out], by have := HC5.out; omega⟩
  case round =>
    obtain ⟨d, rfl, hd, hd5⟩ := hrel
    have hd0 : 0 < d.size := by
      rcases Nat.eq_zero_or_pos d.size with h | h
      · have : bts d = [] := by apply List.eq_nil_of_length_eq_zero; rw [bts_len]; exact h
        rw [this, trimZ_nil] at hd
        exact absurd hd.symm HT.out
      · exact h
    have HD := Lib.hid hd
    have HS := Lib.hid (last_split d hd0)
    clear hd
    by_cases h48 : (d[d.size - 1]'(by omega)).toNat = 48
    · have c0 : ((((d[d.size - 1]'(by omega)).toNat : Nat) : Int) == 48) = true := by simp [h48]
      go_wp2_with fail
      go_round
      case rel =>
        refine ⟨_, rfl, ?_, ?_⟩
        · rw [← HD.out, HS.out, h48, trimZ_zero]
        · rw [ByteArray.size_extract]; omega
      case measure => simp; omega
    · have c0 : ((((d[d.size - 1]'(by omega)).toNat : Nat) : Int) == 48) = false := by simp; omega
      go_wp2_with fail
      go_ret
      have hsg : (if -(X : Int) < 0 then [45] else []) = ([45] : List Nat) := if_pos (by omega)
      have hz : bts d = trimZ (decD 5 q) := by
        have := HD.out
        rw [HS.out, trimZ_other _ h48, ← HS.out] at this
        exact this
      exact ⟨_, rfl, fmt_txt (X := X) (by omega) HM.out HF.out HJ.out (by rw [hsg]; simp only [bts_append, bts_empty, bts_minus, bts_point, HB.out, hz, fracS, if_neg hf0, HQ.out]; simp), rfl⟩
set_option linter.unusedSimpArgs false in
set_option linter.unusedVariables false in
set_option maxRecDepth 100000 in
set_option maxHeartbeats 6400000 in
theorem rFormat_pos0 (X m : Nat) (w : World) (h1 : X ≤ 2147483648) (hm : X / 65536 = m) (hf : X % 65536 = 0) :
    Calls Tryd.prog 71 #[ .int .i64 ((X : Int)) ] w (FmtTxt ((X : Int)) w) := by
  have HM := Lib.hid hm
  have HF := Lib.hid hf
  have em : (X : Int) / 65536 = (m : Int) := by omega
  have HE := Lib.hid em
  have ef : (X : Int) % 65536 = ((0 : Nat) : Int) := by omega
  obtain ⟨f, hf0⟩ : ∃ f, f = 0 := ⟨0, rfl⟩
  rw [← hf0] at ef
  have e0 : ((f : Int) == 0) = true := by simp; omega
  have HF0 := Lib.hid hf0
  clear hf0
  have hm5 : m ≤ 32768 := by omega
  clear hm hf em
  go_enter Tryd.func71, Tryd.ntmps71
  go_wp2_with fail
  refine (rDecimal_any m 1 _ _ _ HE.out rfl (by omega) (by omega)).mono ?_
  rintro e w1 ⟨j, b, rfl, hj, hb, rfl⟩
  have hb5 : b.size ≤ 5 := by rw [dec_size hb]; exact dec1 hm5 hj
  have HJ := Lib.hid hj
  have HB := Lib.hid hb
  clear hj hb
  go_wp2_with fail
  go_ret
  have hsg : (if (X : Int) < 0 then [45] else []) = ([] : List Nat) := if_neg (by omega)
  exact ⟨_, rfl, fmt_txt (X := X) (by omega) HM.out HF.out HJ.out (by rw [hsg]; simp only [bts_append, bts_empty, bts_minus, HB.out]; simp [fracS]), rfl⟩
set_option linter.unusedSimpArgs false in
set_option linter.unusedVariables false in
set_option maxRecDepth 100000 in
set_option maxHeartbeats 6400000 in
theorem rFormat_pos1 (X m f q : Nat) (w : World) (h1 : X ≤ 2147483648) (hm : X / 65536 = m) (hf : X % 65536 = f) (hf0 : f ≠ 0) (hq : fracQ f = q) :
    Calls Tryd.prog 71 #[ .int .i64 ((X : Int)) ] w (FmtTxt ((X : Int)) w) := by
  have HM := Lib.hid hm
  have HF := Lib.hid hf
  have em : (X : Int) / 65536 = (m : Int) := by omega
  have HE := Lib.hid em
  have ef : (X : Int) % 65536 = (f : Int) := by omega
  have e0 : ((f : Int) == 0) = false := by simp; omega
  have hm5 : m ≤ 32768 := by omega
  have hf6 : f < 65536 := by omega
  have qb := fracQ_bd hf0 hf6
  rw [hq] at qb
  obtain ⟨q1, q2⟩ := qb
  have eq : (2 * (f : Int) * 100000 + 65536) / 131072 = (q : Int) := by rw [← hq]; unfold fracQ; omega
  have EQ := Lib.hid eq
  have HQ := Lib.hid hq
  have HT := Lib.hid (trimZ_ne q1 q2)
  clear hm hf em eq hq
  go_enter Tryd.func71, Tryd.ntmps71
  go_wp2_with fail
  refine (rDecimal_any m 1 _ _ _ HE.out rfl (by omega) (by omega)).mono ?_
  rintro e w1 ⟨j, b, rfl, hj, hb, rfl⟩
  have hb5 : b.size ≤ 5 := by rw [dec_size hb]; exact dec1 hm5 hj
  have HJ := Lib.hid hj
  have HB := Lib.hid hb
  clear hj hb
  go_wp2_with fail
  refine (rDecimal_any q 5 _ _ _ (by have := EQ.out; omega) rfl (by omega) (by omega)).mono ?_
  rintro e w1 ⟨j5, c, rfl, hj, hc, rfl⟩
  have j5e := dec5 q2 hj
  subst j5e
  have hc5 := dec_size hc
  have HC := Lib.hid hc
  have HC5 := Lib.hid hc5
  clear hj hc hc5
  go_wp2_with fail
  go_loop [6] (fun s => ∃ c : ByteArray, s = .string c ∧ trimZ (bts c) = trimZ (decD 5 q) ∧ c.size ≤ 5) (fun s => strLen s)
  case atStart => exact ⟨c, rfl, by rw [HC.out], by have := HC5.out; omega⟩
  case round =>
    obtain ⟨d, rfl, hd, hd5⟩ := hrel
    have hd0 : 0 < d.size := by
      rcases Nat.eq_zero_or_pos d.size with h | h
      · have : bts d = [] := by apply List.eq_nil_of_length_eq_zero; rw [bts_len]; exact h
        rw [this, trimZ_nil] at hd
        exact absurd hd.symm HT.out
      · exact h
    have HD := Lib.hid hd
    have HS := Lib.hid (last_split d hd0)
    clear hd
    by_cases h48 : (d[d.size - 1]'(by omega)).toNat = 48
    · have c0 : ((((d[d.size - 1]'(by omega)).toNat : Nat) : Int) == 48) = true := by simp [h48]
      go_wp2_with fail
      go_round
      case rel =>
        refine ⟨_, rfl, ?_, ?_⟩
        · rw [← HD.out, HS.out, h48, trimZ_zero]
        · rw [ByteArray.size_extract]; omega
      case measure => simp; omega
    · have c0 : ((((d[d.size - 1]'(by omega)).toNat : Nat) : Int) == 48) = false := by simp; omega
      go_wp2_with fail
      go_ret
      have hsg : (if (X : Int) < 0 then [45] else []) = ([] : List Nat) := if_neg (by omega)
      have hz : bts d = trimZ (decD 5 q) := by
        have := HD.out
        rw [HS.out, trimZ_other _ h48, ← HS.out] at this
        exact this
      exact ⟨_, rfl, fmt_txt (X := X) (by omega) HM.out HF.out HJ.out (by rw [hsg]; simp only [bts_append, bts_empty, bts_minus, bts_point, HB.out, hz, fracS, if_neg hf0, HQ.out]; simp), rfl⟩
set_option linter.unusedSimpArgs false in
set_option linter.unusedVariables false in
set_option maxRecDepth 100000 in
set_option maxHeartbeats 6400000 in
theorem rFormat_low (n : Int) (w : World) (h1 : -9223372036854775808 ≤ n) (h2 : n ≤ -2147483648) :
    Calls Tryd.prog 71 #[ .int .i64 n ] w (FmtTxt (-2147483648) w) := by
  have w0 : wrap64 32768 = 32768 := by unfold wrap64; omega
  have w1 : wrap64 2147483648 = 2147483648 := by unfold wrap64; omega
  go_enter Tryd.func71, Tryd.ntmps71
  go_wp2_with fail
  refine (rDecimal_any 32768 1 _ _ _ (by decide) rfl (by omega) (by omega)).mono ?_
  rintro e w1 ⟨j, b, rfl, hj, hb, rfl⟩
  have hb5 : b.size ≤ 5 := by rw [dec_size hb]; exact dec1 (by omega) hj
  have HJ := Lib.hid hj
  have HB := Lib.hid hb
  clear hj hb
  go_wp2_with fail
  go_ret
  exact ⟨_, rfl, fmt_txt (X := 2147483648) rfl rfl rfl HJ.out (by rw [if_pos (by decide)]; simp only [bts_append, bts_empty, bts_minus, HB.out]; simp [fracS]), rfl⟩
set_option linter.unusedSimpArgs false in
set_option linter.unusedVariables false in
set_option maxRecDepth 100000 in
set_option maxHeartbeats 6400000 in
theorem rFormat_high (n : Int) (w : World) (h1 : 2147483648 < n) (h2 : n ≤ 9223372036854775807) :
    Calls Tryd.prog 71 #[ .int .i64 n ] w (FmtTxt 2147483648 w) := by
  have w0 : wrap64 32768 = 32768 := by unfold wrap64; omega
  go_enter Tryd.func71, Tryd.ntmps71
  go_wp2_with fail
  refine (rDecimal_any 32768 1 _ _ _ (by decide) rfl (by omega) (by omega)).mono ?_
  rintro e w1 ⟨j, b, rfl, hj, hb, rfl⟩
  have hb5 : b.size ≤ 5 := by rw [dec_size hb]; exact dec1 (by omega) hj
  have HJ := Lib.hid hj
  have HB := Lib.hid hb
  clear hj hb
  go_wp2_with fail
  go_ret
  exact ⟨_, rfl, fmt_txt (X := 2147483648) rfl rfl rfl HJ.out (by rw [if_neg (by decide)]; simp only [bts_append, bts_empty, bts_minus, HB.out]; simp [fracS]), rfl⟩
theorem rFormat_any (n : Int) (w : World) (h1 : -9223372036854775808 ≤ n) (h2 : n ≤ 9223372036854775807) :
    Calls Tryd.prog 71 #[ .int .i64 n ] w (FmtTxt (max (-2147483648) (min n 2147483648)) w) := by
  by_cases hl : n ≤ -2147483648
  · rw [show max (-2147483648) (min n 2147483648) = -2147483648 by omega]; exact rFormat_low n w h1 hl
  · by_cases hh : 2147483648 < n
    · rw [show max (-2147483648) (min n 2147483648) = 2147483648 by omega]; exact rFormat_high n w hh h2
    · rw [show max (-2147483648) (min n 2147483648) = n by omega]
      by_cases hn : n < 0
      · obtain ⟨X, rfl⟩ : ∃ X : Nat, n = -(X : Int) := ⟨n.natAbs, by omega⟩
        by_cases h0 : X % 65536 = 0
        · exact rFormat_neg0 X _ w (by omega) (by omega) (by omega) rfl h0
        · exact rFormat_neg1 X _ _ _ w (by omega) (by omega) (by omega) rfl rfl h0 rfl
      · obtain ⟨X, rfl⟩ : ∃ X : Nat, n = (X : Int) := ⟨n.natAbs, by omega⟩
        by_cases h0 : X % 65536 = 0
        · exact rFormat_pos0 X _ w (by omega) rfl h0
        · exact rFormat_pos1 X _ _ _ w (by omega) rfl rfl h0 rfl
end Go.Proofs.YtpaiapcnoifpmaaDoor
