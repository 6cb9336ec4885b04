/- Proved: the developers' Integer, Number and Name return what their namesakes in Tk2 compute, and turn nothing that was there before. Conditions: as each theorem states. -/
import Derived.Test.YtmdgofbecmonhaaDoorTkF
import Derived.Test.YtmdgofbecmonhaaDoorTk5
import Derived.Test.YtmdgofbecmonhaaDoorTk9
namespace Go.Proofs.YtmdgofbecmonhaaDoor
open Go.RowKit

theorem tdigits_as (s : ByteArray) (m n : Nat) (mi : Int) (b : Bool) (w : World) (hs : s.size ≤ maxLen) (hm : m ≤ 15) (hi : (m : Int) = mi) (hn : (digsD (bts s) m).getD 0 = n) (hb : (digsD (bts s) m).isSome = b) :
    Calls Tryd.prog 41 #[ .string s, .int .i64 mi ] w fun e w' => e = .returned (.tuple #[.int .i64 n, .bool b]) ∧ Below w.heap.size w w' := by
  rw [← hn, ← hb, ← hi]; exact tdigits_any s m w hs hm
theorem prefix_as (s t : ByteArray) (b : Bool) (w : World) (ht : sgnX s = t) (hb : sgnB (bts s) = b) :
    Calls Tryd.prog 29 #[ .string s, .string ⟨#[45]⟩ ] w fun e w' => e = .returned (.tuple #[.string t, .bool b]) ∧ w = w' := by
  rw [← ht, ← hb]; exact prefix_any s w
theorem digs_bd {l : List Nat} {m n : Nat} (h : (digsD l m).getD 0 = n) : n < 10 ^ m := by
  cases hd : digsD l m with
  | none => rw [hd] at h; subst h; exact Nat.pow_pos (by decide)
  | some v => rw [hd] at h; have := digsD_lt hd; simp at h; omega
theorem int_out (o : Option Nat) (neg : Bool) : outI (o.map (fun v => if neg = true then -(v : Int) else v)) = (if neg = true then -((o.getD 0 : Nat) : Int) else (o.getD 0 : Nat)) ∧ outB (o.map (fun v => if neg = true then -(v : Int) else v)) = o.isSome := by
  cases o <;> cases neg <;> simp [outI, outB]
set_option linter.unusedSimpArgs false in
set_option linter.unusedVariables false in
set_option maxHeartbeats 3200000 in
theorem tInteger_any (s : ByteArray) (w : World) (hs : s.size ≤ maxLen) :
    Calls Tryd.prog 24 #[ .string s ] w fun e w' => e = .returned (.tuple #[.int .i64 (outI (intS (bts s))), .bool (outB (intS (bts s)))]) ∧ Below w.heap.size w w' := by
  obtain ⟨t, ht⟩ : ∃ t, sgnX s = t := ⟨_, rfl⟩
  obtain ⟨neg, hneg⟩ : ∃ b, sgnB (bts s) = b := ⟨_, rfl⟩
  obtain ⟨n, hn⟩ : ∃ n, (digsD (bts t) 15).getD 0 = n := ⟨_, rfl⟩
  obtain ⟨b, hb⟩ : ∃ b, (digsD (bts t) 15).isSome = b := ⟨_, rfl⟩
  have hbd := digs_bd hn
  rw [pow15] at hbd
  have hz : t.size ≤ maxLen := by have := sgnX_size s; rw [ht] at this; omega
  have ho : outI (intS (bts s)) = (if neg = true then -(n : Int) else n) ∧ outB (intS (bts s)) = b := by
    unfold intS
    rw [hneg, ← sgnX_bts, ht, intT_digs, ← hn, ← hb]
    exact int_out _ _
  have HT := Lib.hid ht
  have HN := Lib.hid hneg
  have HD := Lib.hid hn
  have HB := Lib.hid hb
  have HO := Lib.hid ho
  have HZ := Lib.hid hz
  clear ht hneg hn hb ho hz hs
  cases neg
  all_goals
    go_enter Tryd.func24, Tryd.ntmps24
    go_wp2_with (first | (go_at_call 29; (with_reducible refine (prefix_as _ _ _ _ HT.out HN.out).mono ?_); rintro e w' ⟨rfl, rfl⟩) | (go_at_call 41; (with_reducible refine (tdigits_as _ 15 _ _ _ _ HZ.out (by decide) (by omega) HD.out HB.out).mono ?_); rintro e w' ⟨rfl, hB⟩))
    go_ret2
    exact ⟨by rw [HO.out.1, HO.out.2]; rfl, hB⟩
theorem mil_lt {t : List Nat} {p : Nat} (h : milS t = some p) : p < 100000000000 := by
  unfold milS at h
  split at h
  · cases h
  · rename_i w hw
    have h1 := digsD_lt hw
    split at h
    · injection h with h; omega
    · split at h
      · cases h
      · rename_i f hf
        injection h with h
        obtain ⟨⟨k1, k2⟩, k3, k4⟩ := digsD_some hf
        have k5 := isd_lt k3
        rw [← k4] at k5
        have k6 : f * 10 ^ (6 - (cutZ 46 t).length) < 10 ^ (cutZ 46 t).length * 10 ^ (6 - (cutZ 46 t).length) := Nat.mul_lt_mul_of_pos_right k5 (Nat.pow_pos (by decide))
        rw [← Nat.pow_add, show (cutZ 46 t).length + (6 - (cutZ 46 t).length) = 6 by omega] at k6
        omega
theorem mil_bd {t : List Nat} {p : Nat} (h : (milS t).getD 0 = p) : p < 100000000000 := by
  cases hm : milS t with
  | none => rw [hm] at h; subst h; decide
  | some q => rw [hm] at h; have := mil_lt hm; simp at h; omega
theorem mil_ret {o : Option Nat} {n : Int} {b : Bool} (h1 : ((o.getD 0 : Nat) : Int) = n) (h2 : o.isSome = b) : Ending.returned (.tuple #[.int .i64 n, .bool b]) = .returned (.tuple #[.int .i64 (o.getD 0 : Nat), .bool o.isSome]) := by rw [h1, h2]
set_option linter.unusedSimpArgs false in
set_option linter.unusedVariables false in
set_option maxHeartbeats 3200000 in
set_option maxRecDepth 100000 in
theorem millionths_any (s : ByteArray) (w : World) (hs : s.size ≤ maxLen) :
    Calls Tryd.prog 30 #[ .string s ] w fun e w' => e = .returned (.tuple #[.int .i64 ((milS (bts s)).getD 0 : Nat), .bool (milS (bts s)).isSome]) ∧ Below w.heap.size w w' := by
  obtain ⟨o, ho⟩ : ∃ o, milS (bts s) = o := ⟨_, rfl⟩
  rw [ho]
  obtain ⟨pt, hpt⟩ : ∃ b, cutB 46 (bts s) = b := ⟨_, rfl⟩
  have HO := Lib.hid ho
  have HPT := Lib.hid hpt
  have HS := Lib.hid hs
  clear ho hpt hs
  go_enter Tryd.func30, Tryd.ntmps30
  go_wp2_with (fail)
  refine (cut_any s 46 _ HS.out).mono ?_
  rintro e w1 ⟨⟨a, z, rfl, ha, hz⟩, hB1⟩
  rw [show (46 : UInt8).toNat = 46 from rfl] at ha hz
  rw [show (46 : UInt8).toNat = 46 from rfl, HPT.out]
  obtain ⟨n, hn⟩ : ∃ n, (digsD (bts a) 5).getD 0 = n := ⟨_, rfl⟩
  obtain ⟨b, hb⟩ : ∃ b, (digsD (bts a) 5).isSome = b := ⟨_, rfl⟩
  obtain ⟨f, hf⟩ : ∃ n, (digsD (bts z) 6).getD 0 = n := ⟨_, rfl⟩
  obtain ⟨g, hg⟩ : ∃ b, (digsD (bts z) 6).isSome = b := ⟨_, rfl⟩
  have nb := digs_bd hn
  have fb := digs_bd hf
  rw [show (10 : Nat) ^ 5 = 100000 from rfl] at nb
  rw [show (10 : Nat) ^ 6 = 1000000 from rfl] at fb
  have za : a.size ≤ maxLen := by
    rw [← bts_len, ha, cutA]
    have := (List.takeWhile_sublist (fun x => !decide (x = 46)) (l := bts s)).length_le
    rw [bts_len] at this
    have := HS.out
    omega
  have zz : z.size ≤ maxLen := by
    rw [← bts_len, hz, cutZ, List.length_tail]
    have := (List.dropWhile_sublist (fun x => !decide (x = 46)) (l := bts s)).length_le
    rw [bts_len] at this
    have := HS.out
    omega
  have HA := Lib.hid ha
  have HZ := Lib.hid hz
  have HB1 := Lib.hid hB1
  have HN := Lib.hid hn
  have HNB := Lib.hid hb
  have HF := Lib.hid hf
  have HG := Lib.hid hg
  have ZA := Lib.hid za
  have ZZ := Lib.hid zz
  clear ha hz hB1 hn hb hf hg za zz
  cases b
  · have hO : o = none := by
      rw [← HO.out]; unfold milS; rw [← HA.out]
      have := HNB.out
      cases hd : digsD (bts a) 5 with
      | none => rfl
      | some v => rw [hd] at this; cases this
    subst hO
    go_wp2_with (go_at_call 41; (with_reducible refine (tdigits_as _ 5 _ _ _ _ ZA.out (by decide) (by omega) HN.out HNB.out).mono ?_); rintro e w' ⟨rfl, hB2⟩)
    go_ret2
    exact ⟨rfl, bl_next hB2 HB1.out⟩
  · have hd5 : digsD (bts a) 5 = some n := by
      have h1 := HNB.out
      have h2 := HN.out
      cases hd : digsD (bts a) 5 with
      | none => rw [hd] at h1; cases h1
      | some v => rw [hd] at h2; rw [← h2]; rfl
    cases pt
    · have hO : o = some (n * 1000000) := by
        rw [← HO.out]; unfold milS; rw [← HA.out, hd5]; simp only; rw [if_pos HPT.out]
      subst hO
      clear hd5
      go_wp2_with (go_at_call 41; (with_reducible refine (tdigits_as _ 5 _ _ _ _ ZA.out (by decide) (by omega) HN.out HNB.out).mono ?_); rintro e w' ⟨rfl, hB2⟩)
      go_ret2
      exact ⟨mil_ret (by simp) rfl, bl_next hB2 HB1.out⟩
    · cases g
      · have hO : o = none := by
          rw [← HO.out]; unfold milS; rw [← HA.out, hd5]; simp only; rw [if_neg (by rw [HPT.out]; decide), ← HZ.out]
          have := HG.out
          cases hd : digsD (bts z) 6 with
          | none => rfl
          | some v => rw [hd] at this; cases this
        subst hO
        clear hd5
        go_wp2_with (first | (go_at_call 41; (with_reducible refine (tdigits_as _ 5 _ _ _ _ ZA.out (by decide) (by omega) HN.out HNB.out).mono ?_); rintro e w' ⟨rfl, hB2⟩) | (go_at_call 41; (with_reducible refine (tdigits_as _ 6 _ _ _ _ ZZ.out (by decide) (by omega) HF.out HG.out).mono ?_); rintro e w' ⟨rfl, hB3⟩))
        go_ret2
        exact ⟨rfl, bl_next hB3 (bl_next hB2 HB1.out)⟩
      · have hd6 : digsD (bts z) 6 = some f := by
          have h1 := HG.out
          have h2 := HF.out
          cases hd : digsD (bts z) 6 with
          | none => rw [hd] at h1; cases h1
          | some v => rw [hd] at h2; rw [← h2]; rfl
        obtain ⟨⟨k1, k2⟩, k3, k4⟩ := digsD_some hd6
        rw [bts_len] at k1 k2
        have hO : o = some (n * 1000000 + f * 10 ^ (6 - z.size)) := by
          rw [← HO.out]; unfold milS; rw [← HA.out, hd5]; simp only; rw [if_neg (by rw [HPT.out]; decide), ← HZ.out, hd6, bts_len]
        subst hO
        have k5 := isd_lt k3
        rw [← k4, bts_len] at k5
        have K5 := Lib.hid k5
        clear hd5 hd6 k3 k4 k5
        go_wp2_with (first | (go_at_call 41; (with_reducible refine (tdigits_as _ 5 _ _ _ _ ZA.out (by decide) (by omega) HN.out HNB.out).mono ?_); rintro e w' ⟨rfl, hB2⟩) | (go_at_call 41; (with_reducible refine (tdigits_as _ 6 _ _ _ _ ZZ.out (by decide) (by omega) HF.out HG.out).mono ?_); rintro e w' ⟨rfl, hB3⟩))
        have HB3 := Lib.hid (bl_next hB3 (bl_next hB2 HB1.out))
        go_loop [9, 37] (fun v i => ∃ k y : Nat, i = .int .i64 k ∧ v = .int .i64 y ∧ k ≤ 6 - z.size ∧ y = f * 10 ^ k) (fun _ i => 6 - (intOf i).toNat)
        case atStart => exact ⟨0, f, rfl, rfl, by omega, by simp⟩
        case round =>
          obtain ⟨k, y, rfl, rfl, hk, hy⟩ := hrel
          have yb : y < 1000000 := by
            have h1 : f * 10 ^ k < 10 ^ z.size * 10 ^ k := Nat.mul_lt_mul_of_pos_right K5.out (Nat.pow_pos (by decide))
            rw [← Nat.pow_add] at h1
            have h2 : (10 : Nat) ^ (z.size + k) ≤ 10 ^ 6 := Nat.pow_le_pow_right (by decide) (by omega)
            rw [show (10 : Nat) ^ 6 = 1000000 from rfl] at h2
            omega
          have HY := Lib.hid hy
          clear hy
          by_cases hlt : k < 6 - z.size
          · have c1 : ((k : Int) < 6 - (z.size : Int)) = True := by simp; omega
            go_wp2
            go_round
            case rel => exact ⟨k + 1, y * 10, by go_num, by go_num, by omega, by rw [HY.out, Nat.pow_succ, Nat.mul_assoc]⟩
            case measure => simp [intOf]; omega
          · have c1 : ((k : Int) < 6 - (z.size : Int)) = False := by simp; omega
            have hkk : k = 6 - z.size := by omega
            have HY2 := Lib.hid (show y = f * 10 ^ (6 - z.size) by rw [HY.out, hkk])
            clear HY hkk
            go_wp2
            go_ret2
            exact ⟨mil_ret (o := some (n * 1000000 + f * 10 ^ (6 - z.size))) (n := (n : Int) * 1000000 + (y : Int)) (b := true) (by rw [Option.getD_some, ← HY2.out]; omega) rfl, HB3.out⟩
theorem millionths_as (s : ByteArray) (p : Nat) (b : Bool) (w : World) (hs : s.size ≤ maxLen) (hp : (milS (bts s)).getD 0 = p) (hb : (milS (bts s)).isSome = b) :
    Calls Tryd.prog 30 #[ .string s ] w fun e w' => e = .returned (.tuple #[.int .i64 p, .bool b]) ∧ Below w.heap.size w w' := by
  rw [← hp, ← hb]; exact millionths_any s w hs
theorem nearest_as (p q n : Nat) (pi qi : Int) (w : World) (hp : p ≤ 1000000000000000000) (hq : 1 ≤ q) (hq2 : q ≤ 1000000000) (h1 : (p : Int) = pi) (h2 : (q : Int) = qi) (hn : nearQ p q = n) :
    Calls Tryd.prog 27 #[ .int .i64 pi, .int .i64 qi ] w fun e w' => e = .returned (.int .i64 n) ∧ w = w' := by
  rw [← hn, ← h1, ← h2]; exact nearest_any p q w hp hq hq2
theorem near_le {p n : Nat} (hp : p < 100000000000) (h : nearQ (p * 65536) 1000000 = n) : n ≤ 6553600000 := by unfold nearQ at h; omega
set_option linter.unusedSimpArgs false in
set_option linter.unusedVariables false in
set_option maxHeartbeats 3200000 in
theorem tNumber_any (s : ByteArray) (w : World) (hs : s.size ≤ maxLen) :
    Calls Tryd.prog 15 #[ .string s ] w fun e w' => e = .returned (.tuple #[.int .i64 (outI (numS (bts s))), .bool (outB (numS (bts s)))]) ∧ Below w.heap.size w w' := by
  obtain ⟨t, ht⟩ : ∃ t, sgnX s = t := ⟨_, rfl⟩
  obtain ⟨neg, hneg⟩ : ∃ b, sgnB (bts s) = b := ⟨_, rfl⟩
  obtain ⟨p, hp⟩ : ∃ n, (milS (bts t)).getD 0 = n := ⟨_, rfl⟩
  obtain ⟨b, hb⟩ : ∃ b, (milS (bts t)).isSome = b := ⟨_, rfl⟩
  obtain ⟨n, hn⟩ : ∃ n, nearQ (p * 65536) 1000000 = n := ⟨_, rfl⟩
  have hpb := mil_bd hp
  have hnb := near_le hpb hn
  have hz : t.size ≤ maxLen := by have := sgnX_size s; rw [ht] at this; omega
  have hN : numS (bts s) = (milS (bts t)).bind (fun p => finN neg (nearQ (p * 65536) 1000000)) := by
    unfold numS
    rw [hneg, ← sgnX_bts, ht, num_mil]
  have hbad : (b = false ∨ 2147483648 < n) → outI (numS (bts s)) = 0 ∧ outB (numS (bts s)) = false := by
    intro h
    rw [hN]
    cases hm : milS (bts t) with
    | none => exact ⟨rfl, rfl⟩
    | some q =>
      rw [hm] at hb hp
      simp at hb hp
      subst hb hp
      rw [Option.bind_some, hn]
      unfold finN
      rw [if_pos (by rcases h with h | h; cases h; exact h)]
      exact ⟨rfl, rfl⟩
  have hgood : b = true → n ≤ 2147483648 → outI (numS (bts s)) = (if neg = true then -(n : Int) else n) ∧ outB (numS (bts s)) = true := by
    intro h h2
    rw [hN]
    cases hm : milS (bts t) with
    | none => rw [hm] at hb; subst h; cases hb
    | some q =>
      rw [hm] at hp
      simp at hp
      subst hp
      rw [Option.bind_some, hn]
      unfold finN
      rw [if_neg (by omega)]
      exact ⟨rfl, rfl⟩
  have HT := Lib.hid ht
  have HN := Lib.hid hneg
  have HP := Lib.hid hp
  have HB := Lib.hid hb
  have HQ := Lib.hid hn
  have HBAD := Lib.hid hbad
  have HGOOD := Lib.hid hgood
  have HZ := Lib.hid hz
  clear ht hneg hp hb hn hbad hgood hN hz hs
  have hp2 : p * 65536 ≤ 1000000000000000000 := by omega
  rcases (show b = false ∨ (b = true ∧ 2147483648 < n) ∨ (b = true ∧ n ≤ 2147483648) by cases b <;> simp <;> omega) with rfl | ⟨rfl, hc⟩ | ⟨rfl, hc⟩
  · have HO := Lib.hid (HBAD.out (.inl rfl))
    cases neg
    all_goals
      go_enter Tryd.func15, Tryd.ntmps15
      go_wp2_with (first | (go_at_call 29; (with_reducible refine (prefix_as _ _ _ _ HT.out HN.out).mono ?_); rintro e w' ⟨rfl, rfl⟩) | (go_at_call 30; (with_reducible refine (millionths_as _ _ _ _ HZ.out HP.out HB.out).mono ?_); rintro e w' ⟨rfl, hB⟩) | (go_at_call 27; (with_reducible refine (nearest_as (p * 65536) 1000000 n _ _ _ hp2 (by omega) (by omega) (by omega) (by omega) HQ.out).mono ?_); rintro e w' ⟨rfl, rfl⟩))
      go_ret2
      exact ⟨by rw [HO.out.1, HO.out.2]; rfl, hB⟩
  · have HO := Lib.hid (HBAD.out (.inr hc))
    cases neg
    all_goals
      go_enter Tryd.func15, Tryd.ntmps15
      go_wp2_with (first | (go_at_call 29; (with_reducible refine (prefix_as _ _ _ _ HT.out HN.out).mono ?_); rintro e w' ⟨rfl, rfl⟩) | (go_at_call 30; (with_reducible refine (millionths_as _ _ _ _ HZ.out HP.out HB.out).mono ?_); rintro e w' ⟨rfl, hB⟩) | (go_at_call 27; (with_reducible refine (nearest_as (p * 65536) 1000000 n _ _ _ hp2 (by omega) (by omega) (by omega) (by omega) HQ.out).mono ?_); rintro e w' ⟨rfl, rfl⟩))
      go_ret2
      exact ⟨by rw [HO.out.1, HO.out.2]; rfl, hB⟩
  · have HO := Lib.hid (HGOOD.out rfl hc)
    cases neg
    all_goals
      go_enter Tryd.func15, Tryd.ntmps15
      go_wp2_with (first | (go_at_call 29; (with_reducible refine (prefix_as _ _ _ _ HT.out HN.out).mono ?_); rintro e w' ⟨rfl, rfl⟩) | (go_at_call 30; (with_reducible refine (millionths_as _ _ _ _ HZ.out HP.out HB.out).mono ?_); rintro e w' ⟨rfl, hB⟩) | (go_at_call 27; (with_reducible refine (nearest_as (p * 65536) 1000000 n _ _ _ hp2 (by omega) (by omega) (by omega) (by omega) HQ.out).mono ?_); rintro e w' ⟨rfl, rfl⟩))
      go_ret2
      exact ⟨by rw [HO.out.1, HO.out.2]; rfl, hB⟩
end Go.Proofs.YtmdgofbecmonhaaDoor
