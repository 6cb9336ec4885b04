/- Proved: the statement TokenFormats returns true, where the library's table of powers of ten holds what its text lays. Conditions: as the theorem states. -/
import Derived.Test.YtmdgofbecmonhaaDoorTk11
import Derived.Test.YtmdgofbecmonhaaDoorTkI
namespace Go.Proofs.YtmdgofbecmonhaaDoor
open Go.RowKit
theorem shr_bd (x : Int) (k : Nat) (h1 : -9223372036854775808 ≤ x) (h2 : x ≤ 9223372036854775807) : -9223372036854775808 ≤ x / 2 ^ k ∧ x / 2 ^ k ≤ 9223372036854775807 := by
  obtain ⟨p, hp⟩ : ∃ p : Nat, 2 ^ k = p := ⟨_, rfl⟩
  have hpp : 0 < p := by rw [← hp]; exact Nat.pow_pos (by decide)
  have e : (2 : Int) ^ k = (p : Int) := by rw [← hp, Int.natCast_pow]; rfl
  rw [e]
  have h0 : (0 : Int) < p := by omega
  by_cases hx : 0 ≤ x
  · have a1 := Int.ediv_le_self (p : Int) hx
    have a2 := Int.ediv_nonneg hx (by omega : (0 : Int) ≤ p)
    omega
  · have a1 : x ≤ x / (p : Int) := by
      apply Int.le_ediv_of_mul_le h0
      have := Int.mul_le_mul_of_nonpos_left (a := x) (b := (p : Int)) (c := 1) (by omega) (by omega)
      omega
    have a2 : x / (p : Int) < 0 := Int.ediv_lt_of_lt_mul h0 (by omega)
    omega
set_option linter.unusedSimpArgs false in
set_option linter.unusedVariables false in
set_option maxRecDepth 100000 in
set_option maxHeartbeats 6400000 in
theorem TokenFormats_any (x sh : Int) (w : World) (h1 : -9223372036854775808 ≤ x) (h2 : x ≤ 9223372036854775807) (h3 : 0 ≤ sh) (h4 : sh ≤ 255) (hT : Pow10 w) :
    Calls Tryd.prog 5 #[ .int .i64 x, .int .u8 sh ] w fun e w' => e = .returned (.bool true) ∧ Below w.heap.size w w' := by
  obtain ⟨y1, y2⟩ := shr_bd x (sh % 64).toNat h1 h2
  obtain ⟨y, hy⟩ : ∃ y : Int, x / 2 ^ (sh % 64).toNat = y := ⟨_, rfl⟩
  rw [hy] at y1 y2
  go_enter Tryd.func5, Tryd.ntmps5
  go_wp2_with fail
  refine (tFormat_any y _ hT y1 y2).mono ?_
  rintro e w1 ⟨b, rfl, hf, hb⟩
  have HF := Lib.hid hf
  have B1 := Lib.hid hb
  clear hf hb
  have bz : b.size ≤ 1000 := by
    obtain ⟨j, hj, hj2⟩ := HF.out
    rw [← bts_len, hj2]
    have h5 := dec1 (by omega) hj
    have h6 : (fracS ((max (-2147483648) (min y 2147483648)).natAbs % 65536)).length ≤ 6 := by
      unfold fracS
      split
      · simp
      · obtain ⟨k, k1, k2, _⟩ := trimZ_take (decD 5 (fracQ ((max (-2147483648) (min y 2147483648)).natAbs % 65536)))
        rw [List.length_cons, k2, List.length_take, decD_len]
        rw [decD_len] at k1
        omega
    rw [List.length_append, List.length_append, decD_len]
    split <;> simp <;> omega
  have HN := Lib.hid (num_fmt (x := max (-2147483648) (min y 2147483648)) (by omega) (by omega) HF.out)
  have HZ := Lib.hid (show b.size ≤ maxLen by unfold maxLen; omega)
  clear hy
  go_wp2_with fail
  refine (tNumber_any b _ HZ.out).mono ?_
  rintro e w2 ⟨rfl, hb⟩
  rw [HN.out]
  simp only [outI, outB, Option.getD, Option.isSome]
  have B2 := Lib.hid (bl_next hb B1.out)
  clear hb
  go_wp2_with fail
  refine (awake_any _).mono ?_
  rintro e w3 ⟨rfl, hb⟩
  have B3 := Lib.hid (bl_next hb B2.out)
  clear hb
  go_wp2_with fail
  refine (rFormat_any y _ y1 y2).mono ?_
  rintro e w4 ⟨c, rfl, hf, rfl⟩
  have hbc : b = c := bts_inj (fmt_one HF.out hf)
  subst hbc
  clear hf
  go_wp2_with fail
  all_goals
    go_ret
    exact ⟨ret_bool' (by first | (simp; done) | (simp; omega)), B3.out⟩
end Go.Proofs.YtmdgofbecmonhaaDoor
