/- Proved: the reference's Integer, Name and Number return what their namesakes in Tk2 compute, and turn nothing. Conditions: as each theorem states. -/
import Derived.Test.YtpaiapcnoifpmaaDoorTkR
namespace Go.Proofs.YtpaiapcnoifpmaaDoor
open Go.RowKit

theorem sign_as (s t : ByteArray) (b : Bool) (w : World) (h : sgnX s = t) (h' : sgnB (bts s) = b) :
    Calls Tryd.prog 85 #[ .string s ] w fun e w' => e = .returned (.tuple #[.string t, .bool b]) ∧ w = w' := by
  rw [← h, ← h']; exact sign_any s w
theorem digits_as (s : ByteArray) (n x : Nat) (w : World) (hs : s.size ≤ maxLen) (h : digS (bts s) 0 0 = (n, x)) :
    Calls Tryd.prog 86 #[ .string s ] w fun e w' => e = .returned (.tuple #[.int .i64 n, .int .i64 x]) ∧ w = w' := by
  have := digits_any s w hs
  rw [h] at this; exact this
theorem digS_bd {s : ByteArray} {n x : Nat} (h : digS (bts s) 0 0 = (n, x)) : n ≤ s.size ∧ x ≤ 1000000000000000 ∧ x < 10 ^ min n 15 := by
  have h1 := digS_le (bts s) 0 0
  have h2 := digS_lt (bts s) 0 0 (by decide)
  have h3 := pow_le15 n
  rw [h] at h1 h2
  rw [bts_len] at h1
  simp only [] at h1 h2
  exact ⟨by omega, by omega, h2⟩
theorem outs_none {o : Option Int} (h : o = none) : Value.tuple #[.int .i64 0, .bool false] = .tuple #[.int .i64 (outI o), .bool (outB o)] := by subst h; rfl
theorem outs_some {o : Option Int} {x : Int} (h : o = some x) : Value.tuple #[.int .i64 x, .bool true] = .tuple #[.int .i64 (outI o), .bool (outB o)] := by subst h; rfl
set_option linter.unusedSimpArgs false in
set_option linter.unusedVariables false in
set_option maxHeartbeats 3200000 in
theorem rInteger_any (s : ByteArray) (w : World) (hs : s.size ≤ maxLen) :
    Calls Tryd.prog 74 #[ .string s ] w fun e w' => e = .returned (.tuple #[.int .i64 (outI (intS (bts s))), .bool (outB (intS (bts s)))]) ∧ w = w' := by
  obtain ⟨t, ht⟩ : ∃ t, sgnX s = t := ⟨_, rfl⟩
  obtain ⟨neg, hneg⟩ : ∃ b, sgnB (bts s) = b := ⟨_, rfl⟩
  obtain ⟨n, x, hd⟩ : ∃ n x, digS (bts t) 0 0 = (n, x) := ⟨_, _, rfl⟩
  obtain ⟨b1, b2, _⟩ := digS_bd hd
  have hz : t.size ≤ maxLen := by have := sgnX_size s; rw [ht] at this; omega
  have hI : intS (bts s) = if n < 1 ∨ 15 < n ∨ n ≠ t.size then none else some (if neg = true then -(x : Int) else x) := by
    unfold intS intT
    rw [hneg, ← sgnX_bts, ht, hd, bts_len]
  have HI := Lib.hid hI
  have HT := Lib.hid ht
  have HN := Lib.hid hneg
  have HD := Lib.hid hd
  have HZ := Lib.hid hz
  unfold maxLen at hz
  clear hI ht hneg hd hs
  by_cases h1 : n < 1
  · have e := outs_none (HI.out.trans (if_pos (.inl h1)))
    have HE := Lib.hid e
    clear e
    go_enter Tryd.func74, Tryd.ntmps74
    go_wp2_with (first | (go_at_call 85; refine (sign_as _ _ _ _ HT.out HN.out).mono ?_; rintro e w' ⟨rfl, rfl⟩) | (go_at_call 86; refine (digits_as _ _ _ _ HZ.out HD.out).mono ?_; rintro e w' ⟨rfl, rfl⟩))
    go_ret2
    exact ⟨by rw [← HE.out]; rfl, rfl⟩
  · by_cases h2 : 15 < n
    · have e := outs_none (HI.out.trans (if_pos (.inr (.inl h2))))
      have HE := Lib.hid e
      clear e
      go_enter Tryd.func74, Tryd.ntmps74
      go_wp2_with (first | (go_at_call 85; refine (sign_as _ _ _ _ HT.out HN.out).mono ?_; rintro e w' ⟨rfl, rfl⟩) | (go_at_call 86; refine (digits_as _ _ _ _ HZ.out HD.out).mono ?_; rintro e w' ⟨rfl, rfl⟩))
      go_ret2
      exact ⟨by rw [← HE.out]; rfl, rfl⟩
    · by_cases h3 : n = t.size
      · have e := outs_some (HI.out.trans (if_neg (by omega)))
        have HE := Lib.hid e
        clear e HI
        have n0 : ((n : Int) != (t.size : Int)) = false := by simp; omega
        cases neg
        all_goals
          go_enter Tryd.func74, Tryd.ntmps74
          go_wp2_with (first | (go_at_call 85; refine (sign_as _ _ _ _ HT.out HN.out).mono ?_; rintro e w' ⟨rfl, rfl⟩) | (go_at_call 86; refine (digits_as _ _ _ _ HZ.out HD.out).mono ?_; rintro e w' ⟨rfl, rfl⟩))
          go_ret2
          exact ⟨by rw [← HE.out]; rfl, rfl⟩
      · have e := outs_none (HI.out.trans (if_pos (.inr (.inr h3))))
        have HE := Lib.hid e
        clear e HI
        have h4 : n < t.size := by omega
        have n0 : ((n : Int) != (t.size : Int)) = true := by simp; omega
        go_enter Tryd.func74, Tryd.ntmps74
        go_wp2_with (first | (go_at_call 85; refine (sign_as _ _ _ _ HT.out HN.out).mono ?_; rintro e w' ⟨rfl, rfl⟩) | (go_at_call 86; refine (digits_as _ _ _ _ HZ.out HD.out).mono ?_; rintro e w' ⟨rfl, rfl⟩))
        go_ret2
        exact ⟨by rw [← HE.out]; rfl, rfl⟩
theorem bts_world (s : ByteArray) : (s.toList == [119, 111, 114, 108, 100]) = decide (bts s = worldL) := by
  rw [Bool.eq_iff_iff, beq_iff_eq, decide_eq_true_eq, ByteArray.toList_eq]
  unfold bts worldL
  constructor
  · intro h; rw [h]; rfl
  · intro h
    have : s.data.toList.map UInt8.toNat = ([119, 111, 114, 108, 100] : List UInt8).map UInt8.toNat := h
    exact (List.map_inj_right (fun x y h => UInt8.toNat_inj.1 h)).1 this
set_option linter.unusedSimpArgs false in
set_option linter.unusedVariables false in
set_option maxHeartbeats 6400000 in
theorem rName_any (s : ByteArray) (w : World) :
    Calls Tryd.prog 67 #[ .string s ] w fun e w' => e = .returned (.bool (nameS (bts s))) ∧ w = w' := by
  obtain ⟨r, hr⟩ : ∃ r, nameS (bts s) = r := ⟨_, rfl⟩
  rw [hr]
  unfold nameS at hr
  rw [bts_len] at hr
  by_cases h1 : s.size < 1
  · have e : r = false := by rw [← hr]; simp; omega
    subst e
    clear hr
    go_enter Tryd.func67, Tryd.ntmps67
    go_wp2
    go_ret
    exact ⟨rfl, rfl⟩
  · by_cases h2 : 16 < s.size
    · have e : r = false := by rw [← hr]; simp; omega
      subst e
      clear hr
      go_enter Tryd.func67, Tryd.ntmps67
      go_wp2
      go_ret
      exact ⟨rfl, rfl⟩
    · have hw := bts_world s
      by_cases h3 : bts s = worldL
      · have e : r = false := by rw [← hr]; simp [h3]
        subst e
        have hw' : (s.toList == [119, 111, 114, 108, 100]) = true := by rw [hw]; simp [h3]
        clear hr h3 hw
        go_enter Tryd.func67, Tryd.ntmps67
        go_wp2
        go_ret
        exact ⟨rfl, rfl⟩
      · have hw' : (s.toList == [119, 111, 114, 108, 100]) = false := by rw [hw]; simp [h3]
        have HR : Hid (r = (low ((bts s).headD 0) && (bts s).all nameB)) := Lib.hid (by rw [← hr, decide_eq_true (show 1 ≤ s.size by omega), decide_eq_true (show s.size ≤ 16 by omega), decide_eq_false h3]; rfl)
        clear hr h3 hw
        go_enter Tryd.func67, Tryd.ntmps67
        go_wp2
        go_loop [3] (fun i => ∃ k : Nat, k ≤ s.size ∧ i = .int .i64 k ∧ (∀ j, j < k → nameB ((bts s).getD j 0) = true) ∧ (0 < k → low ((bts s).headD 0) = true)) (fun i => s.size - (intOf i).toNat)
        case atStart => exact ⟨0, by omega, rfl, fun j h => by omega, fun h => by omega⟩
        case round =>
          obtain ⟨k, hk, rfl, ha, hl⟩ := hrel
          have HA := Lib.hid ha
          have HL := Lib.hid hl
          clear ha hl
          by_cases hlt : k < s.size
          · have hg : (bts s).getD k 0 = s[k].toNat := by
              rw [List.getD_eq_getElem?_getD, List.getElem?_eq_getElem (by rw [bts_len]; exact hlt), bts_get s hlt]; rfl
            have HG := Lib.hid hg
            have hh : k = 0 → (bts s).headD 0 = s[k].toNat := by
              intro h; subst h; rw [← HG.out]; cases bts s <;> rfl
            have HH := Lib.hid hh
            clear hg hh
            have hlast : nameB s[k].toNat = true → (k = 0 → low s[k].toNat = true) → ∃ k' : Nat, k' ≤ s.size ∧ (.int .i64 ((k : Int) + 1) : Value) = .int .i64 (k' : Int) ∧ (∀ j, j < k' → nameB ((bts s).getD j 0) = true) ∧ (0 < k' → low ((bts s).headD 0) = true) := by
              intro h1 h2
              refine ⟨k + 1, by omega, by simp, fun j hj => ?_, fun _ => ?_⟩
              · rcases Nat.lt_or_ge j k with h | h
                · exact HA.out j h
                · have : j = k := by omega
                  subst this; rw [HG.out]; exact h1
              · rcases Nat.eq_zero_or_pos k with h | h
                · rw [HH.out h]; exact h2 h
                · exact HL.out h
            have hfail : (nameB s[k].toNat = false ∨ (k = 0 ∧ low s[k].toNat = false)) → r = false := by
              intro h
              rw [HR.out]
              rcases h with h | ⟨h0, h⟩
              · have : (bts s).all nameB = false := by
                  rw [List.all_eq_false]
                  exact ⟨s[k].toNat, by rw [← bts_get s hlt]; exact List.getElem_mem _, by simp [h]⟩
                rw [this, Bool.and_false]
              · rw [HH.out h0, h, Bool.false_and]
            have HLast := Lib.hid hlast
            have HFail := Lib.hid hfail
            clear hlast hfail
            have hc := (s[k]).toNat_lt
            rcases (show (97 ≤ s[k].toNat ∧ s[k].toNat ≤ 122) ∨ (s[k].toNat = 95 ∧ k = 0) ∨ (s[k].toNat = 95 ∧ 0 < k) ∨ (48 ≤ s[k].toNat ∧ s[k].toNat ≤ 57 ∧ k = 0) ∨ (48 ≤ s[k].toNat ∧ s[k].toNat ≤ 57 ∧ 0 < k) ∨ s[k].toNat < 48 ∨ (57 < s[k].toNat ∧ s[k].toNat < 95) ∨ s[k].toNat = 96 ∨ 122 < s[k].toNat by omega) with h | ⟨h, h0⟩ | ⟨h, h0⟩ | ⟨h, h', h0⟩ | ⟨h, h', h0⟩ | h | ⟨h, h'⟩ | h | h
            · obtain ⟨h5, h6⟩ := h
              go_wp2
              go_round
              case rel => exact HLast.out (by simp [nameB, low]; omega) (fun _ => by simp [low]; omega)
              case measure => simp [intOf]; omega
            · subst h0
              have e := HFail.out (.inr ⟨rfl, by simp [low]; omega⟩)
              subst e
              go_wp2
              go_ret
              exact ⟨rfl, rfl⟩
            · have k0 : ((k : Int) == 0) = false := by simp; omega
              have c0 : (((s[k].toNat : Nat) : Int) != 95) = false := by simp [h]
              go_wp2
              go_round
              case rel => exact HLast.out (by simp [nameB, h]) (fun h => by omega)
              case measure => simp [intOf]; omega
            · subst h0
              have c0 : (((s[0].toNat : Nat) : Int) != 95) = true := by simp; omega
              have e := HFail.out (.inr ⟨rfl, by simp [low]; omega⟩)
              subst e
              go_wp2
              go_ret
              exact ⟨rfl, rfl⟩
            · have k0 : ((k : Int) == 0) = false := by simp; omega
              have c0 : (((s[k].toNat : Nat) : Int) != 95) = true := by simp; omega
              go_wp2
              go_round
              case rel => exact HLast.out (by simp [nameB, isd]; omega) (fun h => by omega)
              case measure => simp [intOf]; omega
            · have e := HFail.out (.inl (by simp [nameB, low, isd]; omega))
              have c0 : (((s[k].toNat : Nat) : Int) != 95) = true := by simp; omega
              subst e
              rcases Nat.eq_zero_or_pos k with h0 | h0
              · subst h0
                go_wp2
                go_ret
                exact ⟨rfl, rfl⟩
              · have k0 : ((k : Int) == 0) = false := by simp; omega
                go_wp2
                go_ret
                exact ⟨rfl, rfl⟩
            · have e := HFail.out (.inl (by simp [nameB, low, isd]; omega))
              have c0 : (((s[k].toNat : Nat) : Int) != 95) = true := by simp; omega
              subst e
              rcases Nat.eq_zero_or_pos k with h0 | h0
              · subst h0
                go_wp2
                go_ret
                exact ⟨rfl, rfl⟩
              · have k0 : ((k : Int) == 0) = false := by simp; omega
                go_wp2
                go_ret
                exact ⟨rfl, rfl⟩
            · have e := HFail.out (.inl (by simp [nameB, low, isd]; omega))
              have c0 : (((s[k].toNat : Nat) : Int) != 95) = true := by simp; omega
              subst e
              rcases Nat.eq_zero_or_pos k with h0 | h0
              · subst h0
                go_wp2
                go_ret
                exact ⟨rfl, rfl⟩
              · have k0 : ((k : Int) == 0) = false := by simp; omega
                go_wp2
                go_ret
                exact ⟨rfl, rfl⟩
            · have d0 : decide (((s[k].toNat : Nat) : Int) ≤ 122) = false := by simp; omega
              have e := HFail.out (.inl (by simp [nameB, low, isd]; omega))
              have c0 : (((s[k].toNat : Nat) : Int) != 95) = true := by simp; omega
              subst e
              rcases Nat.eq_zero_or_pos k with h0 | h0
              · subst h0
                go_wp2
                go_ret
                exact ⟨rfl, rfl⟩
              · have k0 : ((k : Int) == 0) = false := by simp; omega
                go_wp2
                go_ret
                exact ⟨rfl, rfl⟩
          · have e : r = true := by
              rw [HR.out, HL.out (by omega), Bool.true_and, List.all_eq_true]
              intro x hx
              obtain ⟨j, hj, rfl⟩ := List.getElem_of_mem hx
              have := HA.out j (by rw [bts_len] at hj; omega)
              rwa [List.getD_eq_getElem?_getD, List.getElem?_eq_getElem hj] at this
            subst e
            go_wp2
            go_ret
            exact ⟨rfl, rfl⟩
end Go.Proofs.YtpaiapcnoifpmaaDoor
