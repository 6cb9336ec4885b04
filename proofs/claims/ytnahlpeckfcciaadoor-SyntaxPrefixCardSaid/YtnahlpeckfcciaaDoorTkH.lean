/- Proved: the developers' Name returns what nameS in Tk2 computes, and turns nothing that was there before. Conditions: as the theorem states. -/
import Derived.Test.YtnahlpeckfcciaaDoorTkG
namespace Go.Proofs.YtnahlpeckfcciaaDoor
open Go.RowKit

theorem head_at (s : ByteArray) (h : 0 < s.size) : (bts s).headD 0 = s[0].toNat := by
  have := bts_drop s h
  rw [List.drop_zero] at this
  rw [this]; rfl
theorem name_no {s : ByteArray} {c pos : Nat} (h : pos < s.size) (hc : s[pos].toNat = c) (hb : nameB c = false ∨ (pos = 0 ∧ low c = false)) : (low ((bts s).headD 0) && (bts s).all nameB) = false := by
  rcases hb with hb | ⟨h0, hb⟩
  · have : (bts s).all nameB = false := by
      rw [List.all_eq_false]
      exact ⟨c, by rw [← hc, ← bts_get s h]; exact List.getElem_mem _, by simp [hb]⟩
    rw [this, Bool.and_false]
  · subst h0
    rw [head_at s h, hc, hb, Bool.false_and]
end Go.Proofs.YtnahlpeckfcciaaDoor
