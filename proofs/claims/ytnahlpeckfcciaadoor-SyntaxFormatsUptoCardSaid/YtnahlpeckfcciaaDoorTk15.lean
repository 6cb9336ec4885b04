/- Proved: what a range over a text meets, rune by rune, against the words of Tk1. Conditions: as each theorem states. Nothing of the program is used. -/
import Derived.Test.YtnahlpeckfcciaaDoorTk1
import Derived.Lib.OthersKept
namespace Go.Proofs.YtnahlpeckfcciaaDoor
open Go.RowKit

theorem at_get (s : ByteArray) (k : Nat) (h : k < s.size) : s.get! k = s[k]'h := by
  simp [ByteArray.get!, getElem!_pos, h]
  rfl
/-- A rune that is no ASCII stands in bytes that are none. -/
theorem decode_span (s : ByteArray) (pos : Nat) (h : pos < s.size) (ha : 128 ≤ (s[pos]'h).toNat) :
    128 ≤ (Utf8.decode s pos).1 ∧ 1 ≤ (Utf8.decode s pos).2 ∧ pos + (Utf8.decode s pos).2 ≤ s.size ∧ ∀ k (hk : k < s.size), pos ≤ k → k < pos + (Utf8.decode s pos).2 → 128 ≤ (s[k]'hk).toNat := by
  obtain ⟨h1, h2⟩ := decode_high s pos h ha
  refine ⟨h1, h2, ?_⟩
  have g0 : (s.get! (pos + 0)).toNat = (s[pos]'h).toNat := by rw [Nat.add_zero, at_get s pos h]
  have hn : ¬ (s[pos]'h).toNat < 128 := by omega
  have key : ∀ m, (Utf8.decode s pos).2 = m → pos + m ≤ s.size ∧ ∀ k (hk : k < s.size), pos ≤ k → k < pos + m → 128 ≤ (s[k]'hk).toNat := by
    intro m hm
    have one : m = 1 → pos + m ≤ s.size ∧ ∀ k (hk : k < s.size), pos ≤ k → k < pos + m → 128 ≤ (s[k]'hk).toNat := by
      rintro rfl
      refine ⟨by omega, fun k hk h1 h2 => ?_⟩
      have : k = pos := by omega
      subst this; exact ha
    have ct : ∀ j, (decide (pos + j < s.size) && (s.get! (pos + j)).toNat / 64 == 2) = true → ∃ hj : pos + j < s.size, 128 ≤ (s[pos + j]'hj).toNat := by
      intro j hj
      simp only [Bool.and_eq_true, decide_eq_true_eq, beq_iff_eq] at hj
      refine ⟨hj.1, ?_⟩
      rw [← at_get s _ hj.1]; omega
    have two : m = 2 → (decide (pos + 1 < s.size) && (s.get! (pos + 1)).toNat / 64 == 2) = true → pos + m ≤ s.size ∧ ∀ k (hk : k < s.size), pos ≤ k → k < pos + m → 128 ≤ (s[k]'hk).toNat := by
      rintro rfl c1
      obtain ⟨e1, f1⟩ := ct 1 c1
      refine ⟨by omega, fun k hk h1 h2 => ?_⟩
      rcases (show k = pos ∨ k = pos + 1 by omega) with rfl | rfl
      · exact ha
      · exact f1
    have three : m = 3 → (decide (pos + 1 < s.size) && (s.get! (pos + 1)).toNat / 64 == 2) = true → (decide (pos + 2 < s.size) && (s.get! (pos + 2)).toNat / 64 == 2) = true → pos + m ≤ s.size ∧ ∀ k (hk : k < s.size), pos ≤ k → k < pos + m → 128 ≤ (s[k]'hk).toNat := by
      rintro rfl c1 c2
      obtain ⟨e1, f1⟩ := ct 1 c1
      obtain ⟨e2, f2⟩ := ct 2 c2
      refine ⟨by omega, fun k hk h1 h2 => ?_⟩
      rcases (show k = pos ∨ k = pos + 1 ∨ k = pos + 2 by omega) with rfl | rfl | rfl
      · exact ha
      · exact f1
      · exact f2
    have four : m = 4 → (decide (pos + 1 < s.size) && (s.get! (pos + 1)).toNat / 64 == 2) = true → (decide (pos + 2 < s.size) && (s.get! (pos + 2)).toNat / 64 == 2) = true → (decide (pos + 3 < s.size) && (s.get! (pos + 3)).toNat / 64 == 2) = true → pos + m ≤ s.size ∧ ∀ k (hk : k < s.size), pos ≤ k → k < pos + m → 128 ≤ (s[k]'hk).toNat := by
      rintro rfl c1 c2 c3
      obtain ⟨e1, f1⟩ := ct 1 c1
      obtain ⟨e2, f2⟩ := ct 2 c2
      obtain ⟨e3, f3⟩ := ct 3 c3
      refine ⟨by omega, fun k hk h1 h2 => ?_⟩
      rcases (show k = pos ∨ k = pos + 1 ∨ k = pos + 2 ∨ k = pos + 3 by omega) with rfl | rfl | rfl | rfl
      · exact ha
      · exact f1
      · exact f2
      · exact f3
    clear ct
    simp only [Utf8.decode, g0, hn, if_false] at hm
    split at hm
    · rename_i hc
      rw [Bool.and_eq_true] at hc
      split at hm
      · exact two hm.symm hc.2
      · exact one hm.symm
    · split at hm
      · rename_i hc
        rw [Bool.and_eq_true, Bool.and_eq_true] at hc
        split at hm
        · exact three hm.symm hc.1.2 hc.2
        · exact one hm.symm
      · split at hm
        · rename_i hc
          rw [Bool.and_eq_true, Bool.and_eq_true, Bool.and_eq_true] at hc
          split at hm
          · exact four hm.symm hc.1.1.2 hc.1.2 hc.2
          · exact one hm.symm
        · exact one hm.symm
  exact key _ rfl
/-- A rune that is no ASCII, in a comment. -/
theorem run_high_com {s : ByteArray} {pos w line bg : Nat} {out : List Wd} (hw : pos + w ≤ s.size) (hb : ∀ k (hk : k < s.size), pos ≤ k → k < pos + w → 128 ≤ (s[k]'hk).toNat) :
    run ((bts s).drop pos) pos line bg true none out = run ((bts s).drop (pos + w)) (pos + w) line bg true none out := by
  have e : (bts s).drop pos = ((bts s).drop pos).take w ++ (bts s).drop (pos + w) := by
    rw [← List.drop_drop, List.take_append_drop]
  have hl : (((bts s).drop pos).take w).length = w := by rw [List.length_take, List.length_drop, bts_len]; omega
  rw [e, run_skip, hl]
  intro x hx
  obtain ⟨j, hj, rfl⟩ := List.getElem_of_mem hx
  rw [hl] at hj
  rw [List.getElem_take, List.getElem_drop, bts_get s (by omega)]
  have := hb (pos + j) (by omega) (by omega) (by omega)
  omega
/-- .. and outside of one. -/
theorem run_high_bad {s : ByteArray} {pos line bg : Nat} {st : Option Nat} {out : List Wd} (h : pos < s.size) (ha : 128 ≤ (s[pos]'h).toNat) : run ((bts s).drop pos) pos line bg false st out = .bad line := by
  rw [bts_drop s h]
  exact run_bad (wb_not.2 (by omega)) (by omega) (by omega) (by omega) (by omega)
end Go.Proofs.YtnahlpeckfcciaaDoor
