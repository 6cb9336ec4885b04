/- Proved: the developers' small functions of texts (kinds of bytes, a sign, a text cut at a byte, digits) return what their namesakes in Tk1, Tk2 and TkE compute, and turn nothing that was there before. Conditions: as each theorem states. -/
import Derived.Test.YtmdgofbecmonhaaDoorTk4
import Derived.Test.YtmdgofbecmonhaaDoorTk15
import Derived.Test.YtmdgofbecmonhaaDoorTkE
import Derived.Test.YtmdgofbecmonhaaDoorShelf
import Derived.Lib.IndexLaws
import Derived.BigCall
import Derived.BigGuard
import Derived.Deep.Draws
import Derived.Laws.Strings3
namespace Go.Proofs.YtmdgofbecmonhaaDoor
open Go.RowKit

set_option linter.unusedSimpArgs false in
set_option linter.unusedVariables false in
set_option maxHeartbeats 1600000 in
theorem isDigit_any (c : Nat) (w : World) (hc : c ≤ 2147483647) :
    Calls Tryd.prog 32 #[ .int .i32 c ] w fun e w' => e = .returned (.bool (isd c)) ∧ w = w' := by
  rcases (show c < 48 ∨ (48 ≤ c ∧ c ≤ 57) ∨ 57 < c by omega) with h | ⟨h1, h2⟩ | h
  all_goals
    go_enter Tryd.func32, Tryd.ntmps32
    go_wp2
    go_ret
    refine ⟨ret_bool' ?_, rfl⟩
    rw [Bool.eq_iff_iff, isd_iff]
    simp
    try omega
set_option linter.unusedSimpArgs false in
set_option linter.unusedVariables false in
set_option maxHeartbeats 1600000 in
theorem isLetter_any (c : Nat) (w : World) (hc : c ≤ 2147483647) :
    Calls Tryd.prog 31 #[ .int .i32 c ] w fun e w' => e = .returned (.bool (low c)) ∧ w = w' := by
  rcases (show c < 97 ∨ (97 ≤ c ∧ c ≤ 122) ∨ 122 < c by omega) with h | ⟨h1, h2⟩ | h
  all_goals
    go_enter Tryd.func31, Tryd.ntmps31
    go_wp2
    go_ret
    refine ⟨ret_bool' ?_, rfl⟩
    rw [Bool.eq_iff_iff]
    simp [low]
    try omega
set_option linter.unusedSimpArgs false in
set_option linter.unusedVariables false in
set_option maxHeartbeats 1600000 in
theorem isWord_any (c : Nat) (w : World) (hc : c ≤ 2147483647) :
    Calls Tryd.prog 50 #[ .int .i32 c ] w fun e w' => e = .returned (.bool (wb c)) ∧ w = w' := by
  rcases (show c = 35 ∨ c < 33 ∨ (33 ≤ c ∧ c ≤ 126 ∧ c ≠ 35) ∨ 126 < c by omega) with rfl | h | ⟨h1, h2, h3⟩ | h
  all_goals
    go_enter Tryd.func50, Tryd.ntmps50
    go_wp2
    go_ret
    refine ⟨ret_bool' ?_, rfl⟩
    rw [Bool.eq_iff_iff, wb_iff]
    simp
    try omega
set_option linter.unusedVariables false in
set_option maxHeartbeats 1600000 in
theorem nearest_any (p q : Nat) (w : World) (hp : p ≤ 1000000000000000000) (hq : 1 ≤ q) (hq2 : q ≤ 1000000000) :
    Calls Tryd.prog 27 #[ .int .i64 p, .int .i64 q ] w fun e w' => e = .returned (.int .i64 (nearQ p q)) ∧ w = w' := by
  go_enter Tryd.func27, Tryd.ntmps27
  go_wp2
  go_ret
  refine ⟨ret_i ?_, rfl⟩
  unfold nearQ
  simp
/-- A sign cut off. -/
theorem prefix_any (s : ByteArray) (w : World) :
    Calls Tryd.prog 29 #[ .string s, .string ⟨#[45]⟩ ] w fun e w' => e = .returned (.tuple #[.string (sgnX s), .bool (sgnB (bts s))]) ∧ w = w' := by
  refine (Tryd.strings_CutPrefix s ⟨#[45]⟩ w).mono ?_
  rintro e w' ⟨rfl, rfl⟩
  have h1 : Lib.hasPrefix s.data.toList (⟨#[45]⟩ : ByteArray).data.toList = sgnB (bts s) := by
    unfold Lib.hasPrefix bts
    cases s.data.toList with
    | nil => rfl
    | cons c l =>
      show ([45] : List UInt8).isPrefixOf (c :: l) = decide (c.toNat = 45)
      rw [Bool.eq_iff_iff]
      simp only [List.isPrefixOf, Bool.and_true, beq_iff_eq, decide_eq_true_eq]
      constructor
      · rintro rfl; rfl
      · intro h; exact (UInt8.toNat_inj.1 (by rw [h]; rfl)).symm
  have h2 : (⟨(Lib.trimPrefix s.data.toList (⟨#[45]⟩ : ByteArray).data.toList).toArray⟩ : ByteArray) = sgnX s := by
    unfold Lib.trimPrefix sgnX
    rw [h1]
    apply bts_inj
    rw [bts_mk]
    cases sgnB (bts s)
    · rfl
    · simp only [if_true]
      rw [bts_extract, List.take_of_length_le (by rw [List.length_drop, bts_len]; omega)]
      simp [bts]
  exact ⟨by rw [h1, h2], rfl⟩
/-- A text cut at its first c. -/
def CutP (s : ByteArray) (c : UInt8) (w : World) (e : Ending) (w' : World) : Prop :=
  (∃ a b : ByteArray, e = .returned (.tuple #[.string a, .string b, .bool (cutB c.toNat (bts s))]) ∧ bts a = cutA c.toNat (bts s) ∧ bts b = cutZ c.toNat (bts s)) ∧ Below w.heap.size w w'
theorem ind_none {s : ByteArray} {c : UInt8} (h : Lib.indexByte s.data.toList c = -1) : ∀ x ∈ bts s, x ≠ c.toNat := by
  intro x hx e
  unfold bts at hx
  obtain ⟨y, hy, rfl⟩ := List.mem_map.1 hx
  obtain ⟨k, hk, he⟩ := List.getElem_of_mem hy
  have := Lib.indexByte_none h k
  rw [List.getElem?_eq_getElem hk, he, UInt8.toNat_inj.1 e] at this
  exact this rfl
theorem ind_some {s : ByteArray} {c : UInt8} {o : Nat} (h : Lib.indexByte s.data.toList c = o) :
    o < s.size ∧ bts s = bts (s.extract 0 o) ++ c.toNat :: bts (s.extract (o + 1) s.size) ∧ ∀ x ∈ bts (s.extract 0 o), x ≠ c.toNat := by
  obtain ⟨h1, h2⟩ := Lib.indexByte_some h
  have hl : s.data.toList.length = s.size := rfl
  have ho : o < s.data.toList.length := (List.getElem?_eq_some_iff.1 h1).1
  have hoc : s.data.toList[o] = c := (List.getElem?_eq_some_iff.1 h1).2
  have e1 : bts (s.extract 0 o) = (bts s).take o := by rw [bts_extract]; simp
  have e2 : bts (s.extract (o + 1) s.size) = (bts s).drop (o + 1) := by rw [bts_extract, List.take_of_length_le (by rw [List.length_drop, bts_len]; omega)]
  have hb : o < (bts s).length := by rw [bts_len]; omega
  have e3 : (bts s)[o] = c.toNat := by simp only [bts, List.getElem_map]; rw [hoc]
  refine ⟨by omega, ?_, ?_⟩
  · rw [e1, e2, ← e3, ← List.drop_eq_getElem_cons hb, List.take_append_drop]
  · rw [e1]
    intro x hx e
    obtain ⟨k, hk, rfl⟩ := List.getElem_of_mem hx
    rw [List.length_take] at hk
    rw [List.getElem_take] at e
    simp only [bts, List.getElem_map] at e
    refine h2 k (by omega) ?_
    rw [List.getElem?_eq_getElem (by omega)]
    exact congrArg some (UInt8.toNat_inj.1 e)
set_option linter.unusedSimpArgs false in
set_option linter.unusedVariables false in
set_option maxHeartbeats 3200000 in
set_option maxRecDepth 100000 in
theorem cutl_any (s : ByteArray) (c : UInt8) (w : World) (hs : s.size ≤ maxLen) : Calls Tryd.prog 49 #[ .string s, .string ⟨#[c]⟩ ] w (CutP s c w) := by
  have hge := Lib.indexByte_ge s.data.toList c
  unfold maxLen at hs
  by_cases hm : Lib.indexByte s.data.toList c = -1
  · have hn := Lib.hid (cut_none (ind_none hm))
    have HM := Lib.hid hm
    clear hge hm
    go_enter Tryd.func49, Tryd.ntmps49
    go_wp2_with (go_at_call 63; refine (Tryd.stringslite_Index_one s c _).mono ?_; rintro e w' ⟨rfl, rfl⟩; rw [HM.out])
    go_ret3
    exact ⟨⟨_, _, by rw [hn.out.2.2]; rfl, hn.out.1.symm, by rw [hn.out.2.1]; rfl⟩, Below.refl _ _⟩
  · obtain ⟨o, ho⟩ : ∃ o : Nat, Lib.indexByte s.data.toList c = o := ⟨(Lib.indexByte s.data.toList c).toNat, by omega⟩
    obtain ⟨p1, p2, p3⟩ := ind_some ho
    have hn0 := cut_some (u := bts (s.extract (o + 1) s.size)) p3
    rw [← p2] at hn0
    have hn := Lib.hid hn0
    clear hn0
    have HM := Lib.hid ho
    have c1 : (0 : Int) ≤ ↑o := by omega
    have c2 : (↑o : Int) ≤ ↑s.size := by omega
    have c3 : (0 : Int) ≤ ↑o + 1 := by omega
    have c4 : (↑o + 1 : Int) ≤ ↑s.size := by omega
    clear hge hm ho p2 p3
    go_enter Tryd.func49, Tryd.ntmps49
    go_wp2_with (go_at_call 63; refine (Tryd.stringslite_Index_one s c _).mono ?_; rintro e w' ⟨rfl, rfl⟩; rw [HM.out])
    go_region
    go_wp2
    go_ret3
    exact ⟨⟨s.extract 0 o, s.extract (o + 1) s.size, by rw [hn.out.2.2]; rfl, hn.out.1.symm, hn.out.2.1.symm⟩, ⟨rfl, rfl, rfl, Nat.le_refl _, fun _ _ => rfl⟩⟩
set_option linter.unusedVariables false in
set_option maxHeartbeats 1600000 in
theorem cut_any (s : ByteArray) (c : UInt8) (w : World) (hs : s.size ≤ maxLen) : Calls Tryd.prog 34 #[ .string s, .string ⟨#[c]⟩ ] w (CutP s c w) := by
  have HS := Lib.hid hs
  clear hs
  go_enter Tryd.func34, Tryd.ntmps34
  go_wp2_with (go_at_call 49; refine (cutl_any s c _ HS.out).mono ?_; rintro e w' ⟨⟨a, b, rfl, ha, hb⟩, hB⟩)
  go_ret3
  exact ⟨⟨a, b, rfl, ha, hb⟩, hB⟩
theorem take_step (s : ByteArray) {pos c : Nat} (h : pos < s.size) (hc : s[pos].toNat = c) : (bts s).take (pos + 1) = (bts s).take pos ++ [c] := by
  rw [List.take_succ_eq_append_getElem (by rw [bts_len]; exact h), bts_get s h, hc]
theorem take_all (s : ByteArray) : (bts s).take s.size = bts s := by rw [← bts_len, List.take_length]
theorem not_empty {s : ByteArray} (h : s.size ≠ 0) : s.toList.isEmpty = false := by
  rw [ByteArray.toList_eq]
  have : s.data.toList.length = s.size := rfl
  cases hl : s.data.toList with
  | nil => rw [hl] at this; simp at this; omega
  | cons c l => rfl
theorem empty_of {s : ByteArray} (h : s.size = 0) : s = ⟨#[]⟩ := by
  apply bts_inj
  rw [bts_mk]
  show bts s = []
  exact List.eq_nil_of_length_eq_zero (by rw [bts_len]; exact h)
theorem iter_pos {w : World} {k : Nat} {s : ByteArray} {p : Nat} (h : w.heap[k]? = some (.stringIter s p)) : w.iterPos k = p := by simp [World.iterPos, h]
theorem pow15_le {k : Nat} (h : k ≤ 15) : (10 : Nat) ^ k ≤ 1000000000000000 := by
  rw [← pow15]; exact Nat.pow_le_pow_right (by decide) h
set_option linter.unusedSimpArgs false in
set_option linter.unusedVariables false in
set_option maxHeartbeats 3200000 in
set_option maxRecDepth 100000 in
theorem tdigits_any (s : ByteArray) (m : Nat) (w : World) (hs : s.size ≤ maxLen) (hm : m ≤ 15) :
    Calls Tryd.prog 41 #[ .string s, .int .i64 m ] w fun e w' => e = .returned (.tuple #[.int .i64 ((digsD (bts s) m).getD 0 : Nat), .bool (digsD (bts s) m).isSome]) ∧ Below w.heap.size w w' := by
  unfold maxLen at hs
  by_cases h0 : s.size = 0
  · have hd := Lib.hid (show digsD (bts s) m = none by unfold digsD; rw [bts_len, if_neg (by omega)])
    have e0 := empty_of h0
    subst e0
    go_enter Tryd.func41, Tryd.ntmps41
    go_wp2
    go_ret2
    exact ⟨by rw [hd.out]; rfl, Below.refl _ _⟩
  · have he := not_empty h0
    by_cases h1 : m < s.size
    · have hd := Lib.hid (show digsD (bts s) m = none by unfold digsD; rw [bts_len, if_neg (by omega)])
      have hb : decide ((s.size : Int) > (m : Int)) = true := by simp; omega
      go_enter Tryd.func41, Tryd.ntmps41
      go_wp2
      go_ret2
      exact ⟨by rw [hd.out]; rfl, Below.refl _ _⟩
    · have hb : ((m : Int) < (s.size : Int)) = False := by simp; omega
      have HI := Lib.hid (World.iter_heap w s 0)
      have B0 := Lib.hid (show Below w.heap.size w (w.iter s 0) from (Below.refl _ w).alloc (Nat.le_refl _) _)
      go_enter Tryd.func41, Tryd.ntmps41
      go_wp2
      go_loopw [6] (fun v6 wr => ∃ (pos x : Nat), v6 = .int .i64 x ∧ pos ≤ s.size ∧ wr.heap[w.heap.size]? = some (.stringIter s pos) ∧ Below w.heap.size w wr ∧ ((bts s).take pos).all isd = true ∧ valD ((bts s).take pos) = x) (fun _ wr => s.size - wr.iterPos w.heap.size)
      case atStart => exact ⟨0, 0, rfl, by omega, HI.out, B0.out, rfl, rfl⟩
      case round =>
        obtain ⟨pos, x, rfl, hp, hit, hbw, hall, hx⟩ := hrel
        have hxl := isd_lt hall
        rw [hx, List.length_take, bts_len, Nat.min_eq_left hp] at hxl
        have hx2 := pow15_le (show pos ≤ 15 by omega)
        have hx3 : x ≤ 1000000000000000 := by omega
        have HALL := Lib.hid hall
        have HX := Lib.hid hx
        have HBW := Lib.hid hbw
        clear hxl hx2 hall hx hbw
        by_cases hlt : pos < s.size
        · obtain ⟨c, hc⟩ : ∃ c, s[pos].toNat = c := ⟨_, rfl⟩
          by_cases ha : c < 128
          · have hnx : ∀ ty, (Instr.next (.pointer (some ⟨w.heap.size, 0, none⟩)) true ty).run Tryd.prog wr = _ := fun ty => Lib.run_next_ascii_at wr w.heap.size s pos ty hit hlt (by omega)
            have hit2 := Lib.hid (Lib.iterAt_heap wr w.heap.size s pos (pos + 1) hit)
            have hb2 := Lib.hid (Lib.below_iterAt HBW.out (k := w.heap.size) (Nat.le_refl _) s (pos + 1))
            have HIT := Lib.hid hit
            have HC := Lib.hid hc
            rw [hc] at hnx
            obtain ⟨W1, hW1⟩ : ∃ W1, W1 = wr.iterAt w.heap.size s (pos + 1) := ⟨_, rfl⟩
            rw [← hW1] at hnx hit2 hb2
            clear hit hc hW1
            have hc31 : c ≤ 2147483647 := by omega
            cases hd : isd c
            · have HD := Lib.hid hd
              have HN := Lib.hid (show digsD (bts s) m = none by
                unfold digsD
                rw [if_neg]
                rintro ⟨_, h⟩
                rw [List.all_eq_true] at h
                have := h c (by rw [← HC.out, ← bts_get s hlt]; exact List.getElem_mem _)
                rw [hd] at this; cases this)
              clear hd
              go_wp2_with (go_at_call 32; (with_reducible refine (isDigit_any c _ hc31).mono ?_); rintro e w' ⟨rfl, rfl⟩; rw [HD.out])
              go_ret2
              exact ⟨by rw [HN.out]; rfl, hb2.out⟩
            · have HD := Lib.hid hd
              have hcd := isd_iff.1 hd
              obtain ⟨hc48, hc57⟩ := hcd
              clear hd
              go_wp2_with (go_at_call 32; (with_reducible refine (isDigit_any c _ hc31).mono ?_); rintro e w' ⟨rfl, rfl⟩; rw [HD.out])
              go_roundw
              case rel =>
                refine ⟨pos + 1, 10 * x + (c - 48), ?_, by omega, hit2.out, hb2.out, ?_, ?_⟩
                · congr 1; omega
                · rw [take_step s hlt HC.out, List.all_append, HALL.out]; simp [HD.out]
                · rw [take_step s hlt HC.out, valD_snoc, HX.out]
              case measure => rw [iter_pos hit2.out, iter_pos HIT.out]; omega
          · have hnx : ∀ ty, (Instr.next (.pointer (some ⟨w.heap.size, 0, none⟩)) true ty).run Tryd.prog wr = _ := fun ty => Lib.run_next_any_at wr w.heap.size s pos ty hit hlt
            obtain ⟨hr, hw1, hw2, _⟩ := decode_span s pos hlt (by omega)
            have hb2 := Lib.hid (Lib.below_iterAt HBW.out (k := w.heap.size) (Nat.le_refl _) s (pos + (Utf8.decode s pos).2))
            have hr31 := decode_le s pos
            obtain ⟨W1, hW1⟩ : ∃ W1, W1 = wr.iterAt w.heap.size s (pos + (Utf8.decode s pos).2) := ⟨_, rfl⟩
            rw [← hW1] at hnx hb2
            obtain ⟨r, hrr⟩ : ∃ r, (Utf8.decode s pos).1 = r := ⟨_, rfl⟩
            rw [hrr] at hnx hr hr31
            have HD := Lib.hid (isd_not.2 (show r < 48 ∨ 57 < r by omega))
            have HN := Lib.hid (show digsD (bts s) m = none by
              unfold digsD
              rw [if_neg]
              rintro ⟨_, h⟩
              rw [List.all_eq_true] at h
              have := isd_iff.1 (h c (by rw [← hc, ← bts_get s hlt]; exact List.getElem_mem _))
              omega)
            clear hit hc hW1 hrr hw1 hw2
            go_wp2_with (go_at_call 32; (with_reducible refine (isDigit_any r _ hr31).mono ?_); rintro e w' ⟨rfl, rfl⟩; rw [HD.out])
            go_ret2
            exact ⟨by rw [HN.out]; rfl, hb2.out⟩
        · have hnx : ∀ ty, (Instr.next (.pointer (some ⟨w.heap.size, 0, none⟩)) true ty).run Tryd.prog wr = _ := fun ty => Lib.run_next_end_at wr w.heap.size s pos ty hit hlt
          have hps : pos = s.size := by omega
          have HN := Lib.hid (show digsD (bts s) m = some x by
            have h1 := HALL.out
            have h2 := HX.out
            rw [hps, take_all] at h1 h2
            unfold digsD
            rw [bts_len, if_pos ⟨by omega, h1⟩, h2])
          clear hit hps
          go_wp2
          go_ret2
          exact ⟨by rw [HN.out]; rfl, HBW.out⟩
end Go.Proofs.YtmdgofbecmonhaaDoor
