/- Proved: the developers' small functions of texts (kinds of bytes, a sign, a text cut at a byte, digits) return what their namesakes in Tk1, Tk2 and TkE compute, and turn nothing that was there before. Conditions: as each theorem states. -/
import Derived.Test.YtnahlpeckfcciaaDoorTk4
import Derived.Test.YtnahlpeckfcciaaDoorTk15
import Derived.Test.YtnahlpeckfcciaaDoorTkE
import Derived.Test.YtnahlpeckfcciaaDoorShelf
import Derived.Lib.IndexLaws
import Derived.BigCall
import Derived.BigGuard
import Derived.Deep.Draws
import Derived.Laws.Strings3
namespace Go.Proofs.YtnahlpeckfcciaaDoor
open Go.RowKit

set_option linter.unusedSimpArgs false in
set_option linter.unusedVariables false in
set_option maxHeartbeats 1600000 in
theorem isWord_any (c : Nat) (w : World) (hc : c ≤ 2147483647) :
    Calls Tryd.prog 65 #[ .int .i32 c ] w fun e w' => e = .returned (.bool (wb c)) ∧ w = w' := by
  rcases (show c = 35 ∨ c < 33 ∨ (33 ≤ c ∧ c ≤ 126 ∧ c ≠ 35) ∨ 126 < c by omega) with rfl | h | ⟨h1, h2, h3⟩ | h
  all_goals
    go_enter Tryd.func65, Tryd.ntmps65
    go_wp2
    go_ret
    refine ⟨ret_bool' ?_, rfl⟩
    rw [Bool.eq_iff_iff, wb_iff]
    simp
    try omega
/-- A text cut at its first c. -/
def CutP (s : ByteArray) (c : UInt8) (w : World) (e : Ending) (w' : World) : Prop :=
  (∃ a b : ByteArray, e = .returned (.tuple #[.string a, .string b, .bool (cutB c.toNat (bts s))]) ∧ bts a = cutA c.toNat (bts s) ∧ bts b = cutZ c.toNat (bts s)) ∧ Below w.heap.size w w'
theorem ind_none {s : ByteArray} {c : UInt8} (h : Lib.indexByte s.data.toList c = -1) : ∀ x ∈ bts s, x ≠ c.toNat := by
  intro x hx e
  unfold bts at hx
  obtain ⟨y, hy, rfl⟩ := List.mem_map.1 hx
  obtain ⟨k, hk, he⟩ := List.getElem_of_mem hy
  have := Lib.indexByte_none h k
  rw [List.getElem?_eq_getElem hk, he, UInt8.toNat_inj.1 e] at this
  exact this rfl
theorem ind_some {s : ByteArray} {c : UInt8} {o : Nat} (h : Lib.indexByte s.data.toList c = o) :
    o < s.size ∧ bts s = bts (s.extract 0 o) ++ c.toNat :: bts (s.extract (o + 1) s.size) ∧ ∀ x ∈ bts (s.extract 0 o), x ≠ c.toNat := by
  obtain ⟨h1, h2⟩ := Lib.indexByte_some h
  have hl : s.data.toList.length = s.size := rfl
  have ho : o < s.data.toList.length := (List.getElem?_eq_some_iff.1 h1).1
  have hoc : s.data.toList[o] = c := (List.getElem?_eq_some_iff.1 h1).2
  have e1 : bts (s.extract 0 o) = (bts s).take o := by rw [bts_extract]; simp
  have e2 : bts (s.extract (o + 1) s.size) = (bts s).drop (o + 1) := by rw [bts_extract, List.take_of_length_le (by rw [List.length_drop, bts_len]; omega)]
  have hb : o < (bts s).length := by rw [bts_len]; omega
  have e3 : (bts s)[o] = c.toNat := by simp only [bts, List.getElem_map]; rw [hoc]
  refine ⟨by omega, ?_, ?_⟩
  · rw [e1, e2, ← e3, ← List.drop_eq_getElem_cons hb, List.take_append_drop]
  · rw [e1]
    intro x hx e
    obtain ⟨k, hk, rfl⟩ := List.getElem_of_mem hx
    rw [List.length_take] at hk
    rw [List.getElem_take] at e
    simp only [bts, List.getElem_map] at e
    refine h2 k (by omega) ?_
    rw [List.getElem?_eq_getElem (by omega)]
    exact congrArg some (UInt8.toNat_inj.1 e)
set_option linter.unusedSimpArgs false in
set_option linter.unusedVariables false in
set_option maxHeartbeats 3200000 in
set_option maxRecDepth 100000 in
theorem cutl_any (s : ByteArray) (c : UInt8) (w : World) (hs : s.size ≤ maxLen) : Calls Tryd.prog 64 #[ .string s, .string ⟨#[c]⟩ ] w (CutP s c w) := by
  have hge := Lib.indexByte_ge s.data.toList c
  unfold maxLen at hs
  by_cases hm : Lib.indexByte s.data.toList c = -1
  · have hn := Lib.hid (cut_none (ind_none hm))
    have HM := Lib.hid hm
    clear hge hm
    go_enter Tryd.func64, Tryd.ntmps64
    go_wp2_with (go_at_call 72; refine (Tryd.stringslite_Index_one s c _).mono ?_; rintro e w' ⟨rfl, rfl⟩; rw [HM.out])
    go_ret3
    exact ⟨⟨_, _, by rw [hn.out.2.2]; rfl, hn.out.1.symm, by rw [hn.out.2.1]; rfl⟩, Below.refl _ _⟩
  · obtain ⟨o, ho⟩ : ∃ o : Nat, Lib.indexByte s.data.toList c = o := ⟨(Lib.indexByte s.data.toList c).toNat, by omega⟩
    obtain ⟨p1, p2, p3⟩ := ind_some ho
    have hn0 := cut_some (u := bts (s.extract (o + 1) s.size)) p3
    rw [← p2] at hn0
    have hn := Lib.hid hn0
    clear hn0
    have HM := Lib.hid ho
    have c1 : (0 : Int) ≤ ↑o := by omega
    have c2 : (↑o : Int) ≤ ↑s.size := by omega
    have c3 : (0 : Int) ≤ ↑o + 1 := by omega
    have c4 : (↑o + 1 : Int) ≤ ↑s.size := by omega
    clear hge hm ho p2 p3
    go_enter Tryd.func64, Tryd.ntmps64
    go_wp2_with (go_at_call 72; refine (Tryd.stringslite_Index_one s c _).mono ?_; rintro e w' ⟨rfl, rfl⟩; rw [HM.out])
    go_region
    go_wp2
    go_ret3
    exact ⟨⟨s.extract 0 o, s.extract (o + 1) s.size, by rw [hn.out.2.2]; rfl, hn.out.1.symm, hn.out.2.1.symm⟩, ⟨rfl, rfl, rfl, Nat.le_refl _, fun _ _ => rfl⟩⟩
set_option linter.unusedVariables false in
set_option maxHeartbeats 1600000 in
theorem cut_any (s : ByteArray) (c : UInt8) (w : World) (hs : s.size ≤ maxLen) : Calls Tryd.prog 55 #[ .string s, .string ⟨#[c]⟩ ] w (CutP s c w) := by
  have HS := Lib.hid hs
  clear hs
  go_enter Tryd.func55, Tryd.ntmps55
  go_wp2_with (go_at_call 64; refine (cutl_any s c _ HS.out).mono ?_; rintro e w' ⟨⟨a, b, rfl, ha, hb⟩, hB⟩)
  go_ret3
  exact ⟨⟨a, b, rfl, ha, hb⟩, hB⟩
theorem take_step (s : ByteArray) {pos c : Nat} (h : pos < s.size) (hc : s[pos].toNat = c) : (bts s).take (pos + 1) = (bts s).take pos ++ [c] := by
  rw [List.take_succ_eq_append_getElem (by rw [bts_len]; exact h), bts_get s h, hc]
theorem take_all (s : ByteArray) : (bts s).take s.size = bts s := by rw [← bts_len, List.take_length]
theorem not_empty {s : ByteArray} (h : s.size ≠ 0) : s.toList.isEmpty = false := by
  rw [ByteArray.toList_eq]
  have : s.data.toList.length = s.size := rfl
  cases hl : s.data.toList with
  | nil => rw [hl] at this; simp at this; omega
  | cons c l => rfl
theorem empty_of {s : ByteArray} (h : s.size = 0) : s = ⟨#[]⟩ := by
  apply bts_inj
  rw [bts_mk]
  show bts s = []
  exact List.eq_nil_of_length_eq_zero (by rw [bts_len]; exact h)
theorem iter_pos {w : World} {k : Nat} {s : ByteArray} {p : Nat} (h : w.heap[k]? = some (.stringIter s p)) : w.iterPos k = p := by simp [World.iterPos, h]
theorem pow15_le {k : Nat} (h : k ≤ 15) : (10 : Nat) ^ k ≤ 1000000000000000 := by
  rw [← pow15]; exact Nat.pow_le_pow_right (by decide) h
end Go.Proofs.YtnahlpeckfcciaaDoor
