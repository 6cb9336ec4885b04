/- Proved: the developers' small functions of texts (kinds of bytes, a sign, a text cut at a byte, digits) return what their namesakes in Tk1, Tk2 and TkE compute, and turn nothing that was there before. Conditions: as each theorem states. · Proved: the developers' Integer, Number and Name return what their namesakes in Tk2 compute, and turn nothing that was there before. Conditions: as each theorem states. · Proved: the developers' Name returns what nameS in Tk2 computes, and turns nothing that was there before. Conditions: as the theorem states. -/
import Derived.Test.YtpaiapcnoifpmaaDoorTkR
import Derived.Test.YtpaiapcnoifpmaaDoorTkP
import Derived.Test.YtpaiapcnoifpmaaDoorShelf
import Derived.Lib.IndexLaws
import Derived.BigCall
import Derived.BigGuard
import Derived.Deep.Draws
import Derived.Laws.Strings3
import Derived.Test.YtpaiapcnoifpmaaDoorTk5
namespace Go.Proofs.YtpaiapcnoifpmaaDoor
open Go.RowKit

set_option linter.unusedSimpArgs false in
set_option linter.unusedVariables false in
set_option maxHeartbeats 1600000 in
theorem isDigit_any (c : Nat) (w : World) (hc : c ≤ 2147483647) :
    Calls Tryd.prog 61 #[ .int .i32 c ] w fun e w' => e = .returned (.bool (isd c)) ∧ w = w' := by
  rcases (show c < 48 ∨ (48 ≤ c ∧ c ≤ 57) ∨ 57 < c by omega) with h | ⟨h1, h2⟩ | h
  all_goals
    go_enter Tryd.func61, Tryd.ntmps61
    go_wp2
    go_ret
    refine ⟨ret_bool' ?_, rfl⟩
    rw [Bool.eq_iff_iff, isd_iff]
    simp
    try omega
set_option linter.unusedSimpArgs false in
set_option linter.unusedVariables false in
set_option maxHeartbeats 1600000 in
theorem isLetter_any (c : Nat) (w : World) (hc : c ≤ 2147483647) :
    Calls Tryd.prog 60 #[ .int .i32 c ] w fun e w' => e = .returned (.bool (low c)) ∧ w = w' := by
  rcases (show c < 97 ∨ (97 ≤ c ∧ c ≤ 122) ∨ 122 < c by omega) with h | ⟨h1, h2⟩ | h
  all_goals
    go_enter Tryd.func60, Tryd.ntmps60
    go_wp2
    go_ret
    refine ⟨ret_bool' ?_, rfl⟩
    rw [Bool.eq_iff_iff]
    simp [low]
    try omega
set_option linter.unusedVariables false in
set_option maxHeartbeats 1600000 in
theorem nearest_any (p q : Nat) (w : World) (hp : p ≤ 1000000000000000000) (hq : 1 ≤ q) (hq2 : q ≤ 1000000000) :
    Calls Tryd.prog 99 #[ .int .i64 p, .int .i64 q ] w fun e w' => e = .returned (.int .i64 (nearQ p q)) ∧ w = w' := by
  go_enter Tryd.func99, Tryd.ntmps99
  go_wp2
  go_ret
  refine ⟨ret_i ?_, rfl⟩
  unfold nearQ
  simp
/-- A sign cut off. -/
theorem prefix_any (s : ByteArray) (w : World) :
    Calls Tryd.prog 97 #[ .string s, .string ⟨#[45]⟩ ] w fun e w' => e = .returned (.tuple #[.string (sgnX s), .bool (sgnB (bts s))]) ∧ w = w' := by
  refine (Tryd.strings_CutPrefix s ⟨#[45]⟩ w).mono ?_
  rintro e w' ⟨rfl, rfl⟩
  have h1 : Lib.hasPrefix s.data.toList (⟨#[45]⟩ : ByteArray).data.toList = sgnB (bts s) := by
    unfold Lib.hasPrefix bts
    cases s.data.toList with
    | nil => rfl
    | cons c l =>
      show ([45] : List UInt8).isPrefixOf (c :: l) = decide (c.toNat = 45)
      rw [Bool.eq_iff_iff]
      simp only [List.isPrefixOf, Bool.and_true, beq_iff_eq, decide_eq_true_eq]
      constructor
      · rintro rfl; rfl
      · intro h; exact (UInt8.toNat_inj.1 (by rw [h]; rfl)).symm
  have h2 : (⟨(Lib.trimPrefix s.data.toList (⟨#[45]⟩ : ByteArray).data.toList).toArray⟩ : ByteArray) = sgnX s := by
    unfold Lib.trimPrefix sgnX
    rw [h1]
    apply bts_inj
    rw [bts_mk]
    cases sgnB (bts s)
    · rfl
    · simp only [if_true]
      rw [bts_extract, List.take_of_length_le (by rw [List.length_drop, bts_len]; omega)]
      simp [bts]
  exact ⟨by rw [h1, h2], rfl⟩
/-- A text cut at its first c. -/
def CutP (s : ByteArray) (c : UInt8) (w : World) (e : Ending) (w' : World) : Prop :=
  (∃ a b : ByteArray, e = .returned (.tuple #[.string a, .string b, .bool (cutB c.toNat (bts s))]) ∧ bts a = cutA c.toNat (bts s) ∧ bts b = cutZ c.toNat (bts s)) ∧ Below w.heap.size w w'
theorem ind_none {s : ByteArray} {c : UInt8} (h : Lib.indexByte s.data.toList c = -1) : ∀ x ∈ bts s, x ≠ c.toNat := by
  intro x hx e
  unfold bts at hx
  obtain ⟨y, hy, rfl⟩ := List.mem_map.1 hx
  obtain ⟨k, hk, he⟩ := List.getElem_of_mem hy
  have := Lib.indexByte_none h k
  rw [List.getElem?_eq_getElem hk, he, UInt8.toNat_inj.1 e] at this
  exact this rfl
theorem ind_some {s : ByteArray} {c : UInt8} {o : Nat} (h : Lib.indexByte s.data.toList c = o) :
    o < s.size ∧ bts s = bts (s.extract 0 o) ++ c.toNat :: bts (s.extract (o + 1) s.size) ∧ ∀ x ∈ bts (s.extract 0 o), x ≠ c.toNat := by
  obtain ⟨h1, h2⟩ := Lib.indexByte_some h
  have hl : s.data.toList.length = s.size := rfl
  have ho : o < s.data.toList.length := (List.getElem?_eq_some_iff.1 h1).1
  have hoc : s.data.toList[o] = c := (List.getElem?_eq_some_iff.1 h1).2
  have e1 : bts (s.extract 0 o) = (bts s).take o := by rw [bts_extract]; simp
  have e2 : bts (s.extract (o + 1) s.size) = (bts s).drop (o + 1) := by rw [bts_extract, List.take_of_length_le (by rw [List.length_drop, bts_len]; omega)]
  have hb : o < (bts s).length := by rw [bts_len]; omega
  have e3 : (bts s)[o] = c.toNat := by simp only [bts, List.getElem_map]; rw [hoc]
  refine ⟨by omega, ?_, ?_⟩
  · rw [e1, e2, ← e3, ← List.drop_eq_getElem_cons hb, List.take_append_drop]
  · rw [e1]
    intro x hx e
    obtain ⟨k, hk, rfl⟩ := List.getElem_of_mem hx
    rw [List.length_take] at hk
    rw [List.getElem_take] at e
    simp only [bts, List.getElem_map] at e
    refine h2 k (by omega) ?_
    rw [List.getElem?_eq_getElem (by omega)]
    exact congrArg some (UInt8.toNat_inj.1 e)
set_option linter.unusedSimpArgs false in
set_option linter.unusedVariables false in
set_option maxHeartbeats 3200000 in
set_option maxRecDepth 100000 in
theorem cutl_any (s : ByteArray) (c : UInt8) (w : World) (hs : s.size ≤ maxLen) : Calls Tryd.prog 115 #[ .string s, .string ⟨#[c]⟩ ] w (CutP s c w) := by
  have hge := Lib.indexByte_ge s.data.toList c
  unfold maxLen at hs
  by_cases hm : Lib.indexByte s.data.toList c = -1
  · have hn := Lib.hid (cut_none (ind_none hm))
    have HM := Lib.hid hm
    clear hge hm
    go_enter Tryd.func115, Tryd.ntmps115
    go_wp2_with (go_at_call 124; refine (Tryd.stringslite_Index_one s c _).mono ?_; rintro e w' ⟨rfl, rfl⟩; rw [HM.out])
    go_ret3
    exact ⟨⟨_, _, by rw [hn.out.2.2]; rfl, hn.out.1.symm, by rw [hn.out.2.1]; rfl⟩, Below.refl _ _⟩
  · obtain ⟨o, ho⟩ : ∃ o : Nat, Lib.indexByte s.data.toList c = o := ⟨(Lib.indexByte s.data.toList c).toNat, by omega⟩
    obtain ⟨p1, p2, p3⟩ := ind_some ho
    have hn0 := cut_some (u := bts (s.extract (o + 1) s.size)) p3
    rw [← p2] at hn0
    have hn := Lib.hid hn0
    clear hn0
    have HM := Lib.hid ho
    have c1 : (0 : Int) ≤ ↑o := by omega
    have c2 : (↑o : Int) ≤ ↑s.size := by omega
    have c3 : (0 : Int) ≤ ↑o + 1 := by omega
    have c4 : (↑o + 1 : Int) ≤ ↑s.size := by omega
    clear hge hm ho p2 p3
    go_enter Tryd.func115, Tryd.ntmps115
    go_wp2_with (go_at_call 124; refine (Tryd.stringslite_Index_one s c _).mono ?_; rintro e w' ⟨rfl, rfl⟩; rw [HM.out])
    go_region
    go_wp2
    go_ret3
    exact ⟨⟨s.extract 0 o, s.extract (o + 1) s.size, by rw [hn.out.2.2]; rfl, hn.out.1.symm, hn.out.2.1.symm⟩, ⟨rfl, rfl, rfl, Nat.le_refl _, fun _ _ => rfl⟩⟩
set_option linter.unusedVariables false in
set_option maxHeartbeats 1600000 in
theorem cut_any (s : ByteArray) (c : UInt8) (w : World) (hs : s.size ≤ maxLen) : Calls Tryd.prog 105 #[ .string s, .string ⟨#[c]⟩ ] w (CutP s c w) := by
  have HS := Lib.hid hs
  clear hs
  go_enter Tryd.func105, Tryd.ntmps105
  go_wp2_with (go_at_call 115; refine (cutl_any s c _ HS.out).mono ?_; rintro e w' ⟨⟨a, b, rfl, ha, hb⟩, hB⟩)
  go_ret3
  exact ⟨⟨a, b, rfl, ha, hb⟩, hB⟩
theorem take_step (s : ByteArray) {pos c : Nat} (h : pos < s.size) (hc : s[pos].toNat = c) : (bts s).take (pos + 1) = (bts s).take pos ++ [c] := by
  rw [List.take_succ_eq_append_getElem (by rw [bts_len]; exact h), bts_get s h, hc]
theorem take_all (s : ByteArray) : (bts s).take s.size = bts s := by rw [← bts_len, List.take_length]
theorem not_empty {s : ByteArray} (h : s.size ≠ 0) : s.toList.isEmpty = false := by
  rw [ByteArray.toList_eq]
  have : s.data.toList.length = s.size := rfl
  cases hl : s.data.toList with
  | nil => rw [hl] at this; simp at this; omega
  | cons c l => rfl
theorem empty_of {s : ByteArray} (h : s.size = 0) : s = ⟨#[]⟩ := by
  apply bts_inj
  rw [bts_mk]
  show bts s = []
  exact List.eq_nil_of_length_eq_zero (by rw [bts_len]; exact h)
theorem iter_pos {w : World} {k : Nat} {s : ByteArray} {p : Nat} (h : w.heap[k]? = some (.stringIter s p)) : w.iterPos k = p := by simp [World.iterPos, h]
theorem pow15_le {k : Nat} (h : k ≤ 15) : (10 : Nat) ^ k ≤ 1000000000000000 := by
  rw [← pow15]; exact Nat.pow_le_pow_right (by decide) h
set_option linter.unusedSimpArgs false in
set_option linter.unusedVariables false in
set_option maxHeartbeats 3200000 in
set_option maxRecDepth 100000 in
theorem tdigits_any (s : ByteArray) (m : Nat) (w : World) (hs : s.size ≤ maxLen) (hm : m ≤ 15) :
    Calls Tryd.prog 100 #[ .string s, .int .i64 m ] w fun e w' => e = .returned (.tuple #[.int .i64 ((digsD (bts s) m).getD 0 : Nat), .bool (digsD (bts s) m).isSome]) ∧ Below w.heap.size w w' := by
  unfold maxLen at hs
  by_cases h0 : s.size = 0
  · have hd := Lib.hid (show digsD (bts s) m = none by unfold digsD; rw [bts_len, if_neg (by omega)])
    have e0 := empty_of h0
    subst e0
    go_enter Tryd.func100, Tryd.ntmps100
    go_wp2
    go_ret2
    exact ⟨by rw [hd.out]; rfl, Below.refl _ _⟩
  · have he := not_empty h0
    by_cases h1 : m < s.size
    · have hd := Lib.hid (show digsD (bts s) m = none by unfold digsD; rw [bts_len, if_neg (by omega)])
      have hb : decide ((s.size : Int) > (m : Int)) = true := by simp; omega
      go_enter Tryd.func100, Tryd.ntmps100
      go_wp2
      go_ret2
      exact ⟨by rw [hd.out]; rfl, Below.refl _ _⟩
    · have hb : ((m : Int) < (s.size : Int)) = False := by simp; omega
      have HI := Lib.hid (World.iter_heap w s 0)
      have B0 := Lib.hid (show Below w.heap.size w (w.iter s 0) from (Below.refl _ w).alloc (Nat.le_refl _) _)
      go_enter Tryd.func100, Tryd.ntmps100
      go_wp2
      go_loopw [6] (fun v6 wr => ∃ (pos x : Nat), v6 = .int .i64 x ∧ pos ≤ s.size ∧ wr.heap[w.heap.size]? = some (.stringIter s pos) ∧ Below w.heap.size w wr ∧ ((bts s).take pos).all isd = true ∧ valD ((bts s).take pos) = x) (fun _ wr => s.size - wr.iterPos w.heap.size)
      case atStart => exact ⟨0, 0, rfl, by omega, HI.out, B0.out, rfl, rfl⟩
      case round =>
        obtain ⟨pos, x, rfl, hp, hit, hbw, hall, hx⟩ := hrel
        have hxl := isd_lt hall
        rw [hx, List.length_take, bts_len, Nat.min_eq_left hp] at hxl
        have hx2 := pow15_le (show pos ≤ 15 by omega)
        have hx3 : x ≤ 1000000000000000 := by omega
        have HALL := Lib.hid hall
        have HX := Lib.hid hx
        have HBW := Lib.hid hbw
        clear hxl hx2 hall hx hbw
        by_cases hlt : pos < s.size
        · obtain ⟨c, hc⟩ : ∃ c, s[pos].toNat = c := ⟨_, rfl⟩
          by_cases ha : c < 128
          · have hnx : ∀ ty, (Instr.next (.pointer (some ⟨w.heap.size, 0, none⟩)) true ty).run Tryd.prog wr = _ := fun ty => Lib.run_next_ascii_at wr w.heap.size s pos ty hit hlt (by omega)
            have hit2 := Lib.hid (Lib.iterAt_heap wr w.heap.size s pos (pos + 1) hit)
            have hb2 := Lib.hid (Lib.below_iterAt HBW.out (k := w.heap.size) (Nat.le_refl _) s (pos + 1))
            have HIT := Lib.hid hit
            have HC := Lib.hid hc
            rw [hc] at hnx
            obtain ⟨W1, hW1⟩ : ∃ W1, W1 = wr.iterAt w.heap.size s (pos + 1) := ⟨_, rfl⟩
            rw [← hW1] at hnx hit2 hb2
            clear hit hc hW1
            have hc31 : c ≤ 2147483647 := by omega
            cases hd : isd c
            · have HD := Lib.hid hd
              have HN := Lib.hid (show digsD (bts s) m = none by
                unfold digsD
                rw [if_neg]
                rintro ⟨_, h⟩
                rw [List.all_eq_true] at h
                have := h c (by rw [← HC.out, ← bts_get s hlt]; exact List.getElem_mem _)
                rw [hd] at this; cases this)
              clear hd
              go_wp2_with (go_at_call 61; (with_reducible refine (isDigit_any c _ hc31).mono ?_); rintro e w' ⟨rfl, rfl⟩; rw [HD.out])
              go_ret2
              exact ⟨by rw [HN.out]; rfl, hb2.out⟩
            · have HD := Lib.hid hd
              have hcd := isd_iff.1 hd
              obtain ⟨hc48, hc57⟩ := hcd
              clear hd
              go_wp2_with (go_at_call 61; (with_reducible refine (isDigit_any c _ hc31).mono ?_); rintro e w' ⟨rfl, rfl⟩; rw [HD.out])
              go_roundw
              case rel =>
                refine ⟨pos + 1, 10 * x + (c - 48), ?_, by omega, hit2.out, hb2.out, ?_, ?_⟩
                · congr 1; omega
                · rw [take_step s hlt HC.out, List.all_append, HALL.out]; simp [HD.out]
                · rw [take_step s hlt HC.out, valD_snoc, HX.out]
              case measure => rw [iter_pos hit2.out, iter_pos HIT.out]; omega
          · have hnx : ∀ ty, (Instr.next (.pointer (some ⟨w.heap.size, 0, none⟩)) true ty).run Tryd.prog wr = _ := fun ty => Lib.run_next_any_at wr w.heap.size s pos ty hit hlt
            obtain ⟨hr, hw1, hw2, _⟩ := decode_span s pos hlt (by omega)
            have hb2 := Lib.hid (Lib.below_iterAt HBW.out (k := w.heap.size) (Nat.le_refl _) s (pos + (Utf8.decode s pos).2))
            have hr31 := decode_le s pos
            obtain ⟨W1, hW1⟩ : ∃ W1, W1 = wr.iterAt w.heap.size s (pos + (Utf8.decode s pos).2) := ⟨_, rfl⟩
            rw [← hW1] at hnx hb2
            obtain ⟨r, hrr⟩ : ∃ r, (Utf8.decode s pos).1 = r := ⟨_, rfl⟩
            rw [hrr] at hnx hr hr31
            have HD := Lib.hid (isd_not.2 (show r < 48 ∨ 57 < r by omega))
            have HN := Lib.hid (show digsD (bts s) m = none by
              unfold digsD
              rw [if_neg]
              rintro ⟨_, h⟩
              rw [List.all_eq_true] at h
              have := isd_iff.1 (h c (by rw [← hc, ← bts_get s hlt]; exact List.getElem_mem _))
              omega)
            clear hit hc hW1 hrr hw1 hw2
            go_wp2_with (go_at_call 61; (with_reducible refine (isDigit_any r _ hr31).mono ?_); rintro e w' ⟨rfl, rfl⟩; rw [HD.out])
            go_ret2
            exact ⟨by rw [HN.out]; rfl, hb2.out⟩
        · have hnx : ∀ ty, (Instr.next (.pointer (some ⟨w.heap.size, 0, none⟩)) true ty).run Tryd.prog wr = _ := fun ty => Lib.run_next_end_at wr w.heap.size s pos ty hit hlt
          have hps : pos = s.size := by omega
          have HN := Lib.hid (show digsD (bts s) m = some x by
            have h1 := HALL.out
            have h2 := HX.out
            rw [hps, take_all] at h1 h2
            unfold digsD
            rw [bts_len, if_pos ⟨by omega, h1⟩, h2])
          clear hit hps
          go_wp2
          go_ret2
          exact ⟨by rw [HN.out]; rfl, HBW.out⟩
end Go.Proofs.YtpaiapcnoifpmaaDoor
namespace Go.Proofs.YtpaiapcnoifpmaaDoor
open Go.RowKit

theorem tdigits_as (s : ByteArray) (m n : Nat) (mi : Int) (b : Bool) (w : World) (hs : s.size ≤ maxLen) (hm : m ≤ 15) (hi : (m : Int) = mi) (hn : (digsD (bts s) m).getD 0 = n) (hb : (digsD (bts s) m).isSome = b) :
    Calls Tryd.prog 100 #[ .string s, .int .i64 mi ] w fun e w' => e = .returned (.tuple #[.int .i64 n, .bool b]) ∧ Below w.heap.size w w' := by
  rw [← hn, ← hb, ← hi]; exact tdigits_any s m w hs hm
theorem prefix_as (s t : ByteArray) (b : Bool) (w : World) (ht : sgnX s = t) (hb : sgnB (bts s) = b) :
    Calls Tryd.prog 97 #[ .string s, .string ⟨#[45]⟩ ] w fun e w' => e = .returned (.tuple #[.string t, .bool b]) ∧ w = w' := by
  rw [← ht, ← hb]; exact prefix_any s w
theorem digs_bd {l : List Nat} {m n : Nat} (h : (digsD l m).getD 0 = n) : n < 10 ^ m := by
  cases hd : digsD l m with
  | none => rw [hd] at h; subst h; exact Nat.pow_pos (by decide)
  | some v => rw [hd] at h; have := digsD_lt hd; simp at h; omega
theorem int_out (o : Option Nat) (neg : Bool) : outI (o.map (fun v => if neg = true then -(v : Int) else v)) = (if neg = true then -((o.getD 0 : Nat) : Int) else (o.getD 0 : Nat)) ∧ outB (o.map (fun v => if neg = true then -(v : Int) else v)) = o.isSome := by
  cases o <;> cases neg <;> simp [outI, outB]
set_option linter.unusedSimpArgs false in
set_option linter.unusedVariables false in
set_option maxHeartbeats 3200000 in
theorem tInteger_any (s : ByteArray) (w : World) (hs : s.size ≤ maxLen) :
    Calls Tryd.prog 92 #[ .string s ] w fun e w' => e = .returned (.tuple #[.int .i64 (outI (intS (bts s))), .bool (outB (intS (bts s)))]) ∧ Below w.heap.size w w' := by
  obtain ⟨t, ht⟩ : ∃ t, sgnX s = t := ⟨_, rfl⟩
  obtain ⟨neg, hneg⟩ : ∃ b, sgnB (bts s) = b := ⟨_, rfl⟩
  obtain ⟨n, hn⟩ : ∃ n, (digsD (bts t) 15).getD 0 = n := ⟨_, rfl⟩
  obtain ⟨b, hb⟩ : ∃ b, (digsD (bts t) 15).isSome = b := ⟨_, rfl⟩
  have hbd := digs_bd hn
  rw [pow15] at hbd
  have hz : t.size ≤ maxLen := by have := sgnX_size s; rw [ht] at this; omega
  have ho : outI (intS (bts s)) = (if neg = true then -(n : Int) else n) ∧ outB (intS (bts s)) = b := by
    unfold intS
    rw [hneg, ← sgnX_bts, ht, intT_digs, ← hn, ← hb]
    exact int_out _ _
  have HT := Lib.hid ht
  have HN := Lib.hid hneg
  have HD := Lib.hid hn
  have HB := Lib.hid hb
  have HO := Lib.hid ho
  have HZ := Lib.hid hz
  clear ht hneg hn hb ho hz hs
  cases neg
  all_goals
    go_enter Tryd.func92, Tryd.ntmps92
    go_wp2_with (first | (go_at_call 97; (with_reducible refine (prefix_as _ _ _ _ HT.out HN.out).mono ?_); rintro e w' ⟨rfl, rfl⟩) | (go_at_call 100; (with_reducible refine (tdigits_as _ 15 _ _ _ _ HZ.out (by decide) (by omega) HD.out HB.out).mono ?_); rintro e w' ⟨rfl, hB⟩))
    go_ret2
    exact ⟨by rw [HO.out.1, HO.out.2]; rfl, hB⟩
theorem mil_lt {t : List Nat} {p : Nat} (h : milS t = some p) : p < 100000000000 := by
  unfold milS at h
  split at h
  · cases h
  · rename_i w hw
    have h1 := digsD_lt hw
    split at h
    · injection h with h; omega
    · split at h
      · cases h
      · rename_i f hf
        injection h with h
        obtain ⟨⟨k1, k2⟩, k3, k4⟩ := digsD_some hf
        have k5 := isd_lt k3
        rw [← k4] at k5
        have k6 : f * 10 ^ (6 - (cutZ 46 t).length) < 10 ^ (cutZ 46 t).length * 10 ^ (6 - (cutZ 46 t).length) := Nat.mul_lt_mul_of_pos_right k5 (Nat.pow_pos (by decide))
        rw [← Nat.pow_add, show (cutZ 46 t).length + (6 - (cutZ 46 t).length) = 6 by omega] at k6
        omega
theorem mil_bd {t : List Nat} {p : Nat} (h : (milS t).getD 0 = p) : p < 100000000000 := by
  cases hm : milS t with
  | none => rw [hm] at h; subst h; decide
  | some q => rw [hm] at h; have := mil_lt hm; simp at h; omega
theorem mil_ret {o : Option Nat} {n : Int} {b : Bool} (h1 : ((o.getD 0 : Nat) : Int) = n) (h2 : o.isSome = b) : Ending.returned (.tuple #[.int .i64 n, .bool b]) = .returned (.tuple #[.int .i64 (o.getD 0 : Nat), .bool o.isSome]) := by rw [h1, h2]
set_option linter.unusedSimpArgs false in
set_option linter.unusedVariables false in
set_option maxHeartbeats 3200000 in
set_option maxRecDepth 100000 in
theorem millionths_any (s : ByteArray) (w : World) (hs : s.size ≤ maxLen) :
    Calls Tryd.prog 98 #[ .string s ] w fun e w' => e = .returned (.tuple #[.int .i64 ((milS (bts s)).getD 0 : Nat), .bool (milS (bts s)).isSome]) ∧ Below w.heap.size w w' := by
  obtain ⟨o, ho⟩ : ∃ o, milS (bts s) = o := ⟨_, rfl⟩
  rw [ho]
  obtain ⟨pt, hpt⟩ : ∃ b, cutB 46 (bts s) = b := ⟨_, rfl⟩
  have HO := Lib.hid ho
  have HPT := Lib.hid hpt
  have HS := Lib.hid hs
  clear ho hpt hs
  go_enter Tryd.func98, Tryd.ntmps98
  go_wp2_with (fail)
  refine (cut_any s 46 _ HS.out).mono ?_
  rintro e w1 ⟨⟨a, z, rfl, ha, hz⟩, hB1⟩
  rw [show (46 : UInt8).toNat = 46 from rfl] at ha hz
  rw [show (46 : UInt8).toNat = 46 from rfl, HPT.out]
  obtain ⟨n, hn⟩ : ∃ n, (digsD (bts a) 5).getD 0 = n := ⟨_, rfl⟩
  obtain ⟨b, hb⟩ : ∃ b, (digsD (bts a) 5).isSome = b := ⟨_, rfl⟩
  obtain ⟨f, hf⟩ : ∃ n, (digsD (bts z) 6).getD 0 = n := ⟨_, rfl⟩
  obtain ⟨g, hg⟩ : ∃ b, (digsD (bts z) 6).isSome = b := ⟨_, rfl⟩
  have nb := digs_bd hn
  have fb := digs_bd hf
  rw [show (10 : Nat) ^ 5 = 100000 from rfl] at nb
  rw [show (10 : Nat) ^ 6 = 1000000 from rfl] at fb
  have za : a.size ≤ maxLen := by
    rw [← bts_len, ha, cutA]
    have := (List.takeWhile_sublist (fun x => !decide (x = 46)) (l := bts s)).length_le
    rw [bts_len] at this
    have := HS.out
    omega
  have zz : z.size ≤ maxLen := by
    rw [← bts_len, hz, cutZ, List.length_tail]
    have := (List.dropWhile_sublist (fun x => !decide (x = 46)) (l := bts s)).length_le
    rw [bts_len] at this
    have := HS.out
    omega
  have HA := Lib.hid ha
  have HZ := Lib.hid hz
  have HB1 := Lib.hid hB1
  have HN := Lib.hid hn
  have HNB := Lib.hid hb
  have HF := Lib.hid hf
  have HG := Lib.hid hg
  have ZA := Lib.hid za
  have ZZ := Lib.hid zz
  clear ha hz hB1 hn hb hf hg za zz
  cases b
  · have hO : o = none := by
      rw [← HO.out]; unfold milS; rw [← HA.out]
      have := HNB.out
      cases hd : digsD (bts a) 5 with
      | none => rfl
      | some v => rw [hd] at this; cases this
    subst hO
    go_wp2_with (go_at_call 100; (with_reducible refine (tdigits_as _ 5 _ _ _ _ ZA.out (by decide) (by omega) HN.out HNB.out).mono ?_); rintro e w' ⟨rfl, hB2⟩)
    go_ret2
    exact ⟨rfl, bl_next hB2 HB1.out⟩
  · have hd5 : digsD (bts a) 5 = some n := by
      have h1 := HNB.out
      have h2 := HN.out
      cases hd : digsD (bts a) 5 with
      | none => rw [hd] at h1; cases h1
      | some v => rw [hd] at h2; rw [← h2]; rfl
    cases pt
    · have hO : o = some (n * 1000000) := by
        rw [← HO.out]; unfold milS; rw [← HA.out, hd5]; simp only; rw [if_pos HPT.out]
      subst hO
      clear hd5
      go_wp2_with (go_at_call 100; (with_reducible refine (tdigits_as _ 5 _ _ _ _ ZA.out (by decide) (by omega) HN.out HNB.out).mono ?_); rintro e w' ⟨rfl, hB2⟩)
      go_ret2
      exact ⟨mil_ret (by simp) rfl, bl_next hB2 HB1.out⟩
    · cases g
      · have hO : o = none := by
          rw [← HO.out]; unfold milS; rw [← HA.out, hd5]; simp only; rw [if_neg (by rw [HPT.out]; decide), ← HZ.out]
          have := HG.out
          cases hd : digsD (bts z) 6 with
          | none => rfl
          | some v => rw [hd] at this; cases this
        subst hO
        clear hd5
        go_wp2_with (first | (go_at_call 100; (with_reducible refine (tdigits_as _ 5 _ _ _ _ ZA.out (by decide) (by omega) HN.out HNB.out).mono ?_); rintro e w' ⟨rfl, hB2⟩) | (go_at_call 100; (with_reducible refine (tdigits_as _ 6 _ _ _ _ ZZ.out (by decide) (by omega) HF.out HG.out).mono ?_); rintro e w' ⟨rfl, hB3⟩))
        go_ret2
        exact ⟨rfl, bl_next hB3 (bl_next hB2 HB1.out)⟩
      · have hd6 : digsD (bts z) 6 = some f := by
          have h1 := HG.out
          have h2 := HF.out
          cases hd : digsD (bts z) 6 with
          | none => rw [hd] at h1; cases h1
          | some v => rw [hd] at h2; rw [← h2]; rfl
        obtain ⟨⟨k1, k2⟩, k3, k4⟩ := digsD_some hd6
        rw [bts_len] at k1 k2
        have hO : o = some (n * 1000000 + f * 10 ^ (6 - z.size)) := by
          rw [← HO.out]; unfold milS; rw [← HA.out, hd5]; simp only; rw [if_neg (by rw [HPT.out]; decide), ← HZ.out, hd6, bts_len]
        subst hO
        have k5 := isd_lt k3
        rw [← k4, bts_len] at k5
        have K5 := Lib.hid k5
        clear hd5 hd6 k3 k4 k5
        go_wp2_with (first | (go_at_call 100; (with_reducible refine (tdigits_as _ 5 _ _ _ _ ZA.out (by decide) (by omega) HN.out HNB.out).mono ?_); rintro e w' ⟨rfl, hB2⟩) | (go_at_call 100; (with_reducible refine (tdigits_as _ 6 _ _ _ _ ZZ.out (by decide) (by omega) HF.out HG.out).mono ?_); rintro e w' ⟨rfl, hB3⟩))
        have HB3 := Lib.hid (bl_next hB3 (bl_next hB2 HB1.out))
        go_loop [9, 37] (fun v i => ∃ k y : Nat, i = .int .i64 k ∧ v = .int .i64 y ∧ k ≤ 6 - z.size ∧ y = f * 10 ^ k) (fun _ i => 6 - (intOf i).toNat)
        case atStart => exact ⟨0, f, rfl, rfl, by omega, by simp⟩
        case round =>
          obtain ⟨k, y, rfl, rfl, hk, hy⟩ := hrel
          have yb : y < 1000000 := by
            have h1 : f * 10 ^ k < 10 ^ z.size * 10 ^ k := Nat.mul_lt_mul_of_pos_right K5.out (Nat.pow_pos (by decide))
            rw [← Nat.pow_add] at h1
            have h2 : (10 : Nat) ^ (z.size + k) ≤ 10 ^ 6 := Nat.pow_le_pow_right (by decide) (by omega)
            rw [show (10 : Nat) ^ 6 = 1000000 from rfl] at h2
            omega
          have HY := Lib.hid hy
          clear hy
          by_cases hlt : k < 6 - z.size
          · have c1 : ((k : Int) < 6 - (z.size : Int)) = True := by simp; omega
            go_wp2
            go_round
            case rel => exact ⟨k + 1, y * 10, by go_num, by go_num, by omega, by rw [HY.out, Nat.pow_succ, Nat.mul_assoc]⟩
            case measure => simp [intOf]; omega
          · have c1 : ((k : Int) < 6 - (z.size : Int)) = False := by simp; omega
            have hkk : k = 6 - z.size := by omega
            have HY2 := Lib.hid (show y = f * 10 ^ (6 - z.size) by rw [HY.out, hkk])
            clear HY hkk
            go_wp2
            go_ret2
            exact ⟨mil_ret (o := some (n * 1000000 + f * 10 ^ (6 - z.size))) (n := (n : Int) * 1000000 + (y : Int)) (b := true) (by rw [Option.getD_some, ← HY2.out]; omega) rfl, HB3.out⟩
theorem millionths_as (s : ByteArray) (p : Nat) (b : Bool) (w : World) (hs : s.size ≤ maxLen) (hp : (milS (bts s)).getD 0 = p) (hb : (milS (bts s)).isSome = b) :
    Calls Tryd.prog 98 #[ .string s ] w fun e w' => e = .returned (.tuple #[.int .i64 p, .bool b]) ∧ Below w.heap.size w w' := by
  rw [← hp, ← hb]; exact millionths_any s w hs
theorem nearest_as (p q n : Nat) (pi qi : Int) (w : World) (hp : p ≤ 1000000000000000000) (hq : 1 ≤ q) (hq2 : q ≤ 1000000000) (h1 : (p : Int) = pi) (h2 : (q : Int) = qi) (hn : nearQ p q = n) :
    Calls Tryd.prog 99 #[ .int .i64 pi, .int .i64 qi ] w fun e w' => e = .returned (.int .i64 n) ∧ w = w' := by
  rw [← hn, ← h1, ← h2]; exact nearest_any p q w hp hq hq2
theorem near_le {p n : Nat} (hp : p < 100000000000) (h : nearQ (p * 65536) 1000000 = n) : n ≤ 6553600000 := by unfold nearQ at h; omega
set_option linter.unusedSimpArgs false in
set_option linter.unusedVariables false in
set_option maxHeartbeats 3200000 in
theorem tNumber_any (s : ByteArray) (w : World) (hs : s.size ≤ maxLen) :
    Calls Tryd.prog 91 #[ .string s ] w fun e w' => e = .returned (.tuple #[.int .i64 (outI (numS (bts s))), .bool (outB (numS (bts s)))]) ∧ Below w.heap.size w w' := by
  obtain ⟨t, ht⟩ : ∃ t, sgnX s = t := ⟨_, rfl⟩
  obtain ⟨neg, hneg⟩ : ∃ b, sgnB (bts s) = b := ⟨_, rfl⟩
  obtain ⟨p, hp⟩ : ∃ n, (milS (bts t)).getD 0 = n := ⟨_, rfl⟩
  obtain ⟨b, hb⟩ : ∃ b, (milS (bts t)).isSome = b := ⟨_, rfl⟩
  obtain ⟨n, hn⟩ : ∃ n, nearQ (p * 65536) 1000000 = n := ⟨_, rfl⟩
  have hpb := mil_bd hp
  have hnb := near_le hpb hn
  have hz : t.size ≤ maxLen := by have := sgnX_size s; rw [ht] at this; omega
  have hN : numS (bts s) = (milS (bts t)).bind (fun p => finN neg (nearQ (p * 65536) 1000000)) := by
    unfold numS
    rw [hneg, ← sgnX_bts, ht, num_mil]
  have hbad : (b = false ∨ 2147483648 < n) → outI (numS (bts s)) = 0 ∧ outB (numS (bts s)) = false := by
    intro h
    rw [hN]
    cases hm : milS (bts t) with
    | none => exact ⟨rfl, rfl⟩
    | some q =>
      rw [hm] at hb hp
      simp at hb hp
      subst hb hp
      rw [Option.bind_some, hn]
      unfold finN
      rw [if_pos (by rcases h with h | h; cases h; exact h)]
      exact ⟨rfl, rfl⟩
  have hgood : b = true → n ≤ 2147483648 → outI (numS (bts s)) = (if neg = true then -(n : Int) else n) ∧ outB (numS (bts s)) = true := by
    intro h h2
    rw [hN]
    cases hm : milS (bts t) with
    | none => rw [hm] at hb; subst h; cases hb
    | some q =>
      rw [hm] at hp
      simp at hp
      subst hp
      rw [Option.bind_some, hn]
      unfold finN
      rw [if_neg (by omega)]
      exact ⟨rfl, rfl⟩
  have HT := Lib.hid ht
  have HN := Lib.hid hneg
  have HP := Lib.hid hp
  have HB := Lib.hid hb
  have HQ := Lib.hid hn
  have HBAD := Lib.hid hbad
  have HGOOD := Lib.hid hgood
  have HZ := Lib.hid hz
  clear ht hneg hp hb hn hbad hgood hN hz hs
  have hp2 : p * 65536 ≤ 1000000000000000000 := by omega
  rcases (show b = false ∨ (b = true ∧ 2147483648 < n) ∨ (b = true ∧ n ≤ 2147483648) by cases b <;> simp <;> omega) with rfl | ⟨rfl, hc⟩ | ⟨rfl, hc⟩
  · have HO := Lib.hid (HBAD.out (.inl rfl))
    cases neg
    all_goals
      go_enter Tryd.func91, Tryd.ntmps91
      go_wp2_with (first | (go_at_call 97; (with_reducible refine (prefix_as _ _ _ _ HT.out HN.out).mono ?_); rintro e w' ⟨rfl, rfl⟩) | (go_at_call 98; (with_reducible refine (millionths_as _ _ _ _ HZ.out HP.out HB.out).mono ?_); rintro e w' ⟨rfl, hB⟩) | (go_at_call 99; (with_reducible refine (nearest_as (p * 65536) 1000000 n _ _ _ hp2 (by omega) (by omega) (by omega) (by omega) HQ.out).mono ?_); rintro e w' ⟨rfl, rfl⟩))
      go_ret2
      exact ⟨by rw [HO.out.1, HO.out.2]; rfl, hB⟩
  · have HO := Lib.hid (HBAD.out (.inr hc))
    cases neg
    all_goals
      go_enter Tryd.func91, Tryd.ntmps91
      go_wp2_with (first | (go_at_call 97; (with_reducible refine (prefix_as _ _ _ _ HT.out HN.out).mono ?_); rintro e w' ⟨rfl, rfl⟩) | (go_at_call 98; (with_reducible refine (millionths_as _ _ _ _ HZ.out HP.out HB.out).mono ?_); rintro e w' ⟨rfl, hB⟩) | (go_at_call 99; (with_reducible refine (nearest_as (p * 65536) 1000000 n _ _ _ hp2 (by omega) (by omega) (by omega) (by omega) HQ.out).mono ?_); rintro e w' ⟨rfl, rfl⟩))
      go_ret2
      exact ⟨by rw [HO.out.1, HO.out.2]; rfl, hB⟩
  · have HO := Lib.hid (HGOOD.out rfl hc)
    cases neg
    all_goals
      go_enter Tryd.func91, Tryd.ntmps91
      go_wp2_with (first | (go_at_call 97; (with_reducible refine (prefix_as _ _ _ _ HT.out HN.out).mono ?_); rintro e w' ⟨rfl, rfl⟩) | (go_at_call 98; (with_reducible refine (millionths_as _ _ _ _ HZ.out HP.out HB.out).mono ?_); rintro e w' ⟨rfl, hB⟩) | (go_at_call 99; (with_reducible refine (nearest_as (p * 65536) 1000000 n _ _ _ hp2 (by omega) (by omega) (by omega) (by omega) HQ.out).mono ?_); rintro e w' ⟨rfl, rfl⟩))
      go_ret2
      exact ⟨by rw [HO.out.1, HO.out.2]; rfl, hB⟩
end Go.Proofs.YtpaiapcnoifpmaaDoor
namespace Go.Proofs.YtpaiapcnoifpmaaDoor
open Go.RowKit

theorem head_at (s : ByteArray) (h : 0 < s.size) : (bts s).headD 0 = s[0].toNat := by
  have := bts_drop s h
  rw [List.drop_zero] at this
  rw [this]; rfl
theorem name_no {s : ByteArray} {c pos : Nat} (h : pos < s.size) (hc : s[pos].toNat = c) (hb : nameB c = false ∨ (pos = 0 ∧ low c = false)) : (low ((bts s).headD 0) && (bts s).all nameB) = false := by
  rcases hb with hb | ⟨h0, hb⟩
  · have : (bts s).all nameB = false := by
      rw [List.all_eq_false]
      exact ⟨c, by rw [← hc, ← bts_get s h]; exact List.getElem_mem _, by simp [hb]⟩
    rw [this, Bool.and_false]
  · subst h0
    rw [head_at s h, hc, hb, Bool.false_and]
set_option linter.unusedSimpArgs false in
set_option linter.unusedVariables false in
set_option maxHeartbeats 6400000 in
set_option maxRecDepth 100000 in
theorem tName_any (s : ByteArray) (w : World) : Calls Tryd.prog 32 #[ .string s ] w fun e w' => e = .returned (.bool (nameS (bts s))) ∧ Below w.heap.size w w' := by
  obtain ⟨r, hr⟩ : ∃ r, nameS (bts s) = r := ⟨_, rfl⟩
  rw [hr]
  unfold nameS at hr
  rw [bts_len] at hr
  by_cases h0 : s.size = 0
  · have e : r = false := by rw [← hr]; simp; omega
    subst e
    have e0 := empty_of h0
    subst e0
    clear hr
    go_enter Tryd.func32, Tryd.ntmps32
    go_wp2
    go_ret
    exact ⟨rfl, Below.refl _ _⟩
  · have he := not_empty h0
    by_cases h2 : 16 < s.size
    · have e : r = false := by rw [← hr]; simp; omega
      subst e
      clear hr
      go_enter Tryd.func32, Tryd.ntmps32
      go_wp2
      go_ret
      exact ⟨rfl, Below.refl _ _⟩
    · have hw := bts_world s
      by_cases h3 : bts s = worldL
      · have e : r = false := by rw [← hr]; simp [h3]
        subst e
        have hw' : (s.toList == [119, 111, 114, 108, 100]) = true := by rw [hw]; simp [h3]
        clear hr h3 hw
        go_enter Tryd.func32, Tryd.ntmps32
        go_wp2
        go_ret
        exact ⟨rfl, Below.refl _ _⟩
      · have hw' : (s.toList == [119, 111, 114, 108, 100]) = false := by rw [hw]; simp [h3]
        have HR : Hid (r = (low ((bts s).headD 0) && (bts s).all nameB)) := Lib.hid (by rw [← hr, decide_eq_true (show 1 ≤ s.size by omega), decide_eq_true (show s.size ≤ 16 by omega), decide_eq_false h3]; rfl)
        have HI := Lib.hid (World.iter_heap w s 0)
        have B0 := Lib.hid (show Below w.heap.size w (w.iter s 0) from (Below.refl _ w).alloc (Nat.le_refl _) _)
        clear hr h3 hw
        go_enter Tryd.func32, Tryd.ntmps32
        go_wp2
        go_loopw [3] (fun _ wr => ∃ (pos : Nat), pos ≤ s.size ∧ wr.heap[w.heap.size]? = some (.stringIter s pos) ∧ Below w.heap.size w wr ∧ ((bts s).take pos).all nameB = true ∧ (0 < pos → low ((bts s).headD 0) = true)) (fun _ wr => s.size - wr.iterPos w.heap.size)
        case atStart => exact ⟨0, by omega, HI.out, B0.out, rfl, fun h => by omega⟩
        case round =>
          obtain ⟨pos, hp, hit, hbw, hall, hhd⟩ := hrel
          have HALL := Lib.hid hall
          have HHD := Lib.hid hhd
          have HBW := Lib.hid hbw
          clear hall hhd hbw
          by_cases hlt : pos < s.size
          · obtain ⟨c, hc⟩ : ∃ c, s[pos].toNat = c := ⟨_, rfl⟩
            by_cases ha : c < 128
            · have hnx : ∀ ty, (Instr.next (.pointer (some ⟨w.heap.size, 0, none⟩)) true ty).run Tryd.prog wr = _ := fun ty => Lib.run_next_ascii_at wr w.heap.size s pos ty hit hlt (by omega)
              have hit2 := Lib.hid (Lib.iterAt_heap wr w.heap.size s pos (pos + 1) hit)
              have hb2 := Lib.hid (Lib.below_iterAt HBW.out (k := w.heap.size) (Nat.le_refl _) s (pos + 1))
              have HIT := Lib.hid hit
              have HC := Lib.hid hc
              rw [hc] at hnx
              obtain ⟨W1, hW1⟩ : ∃ W1, W1 = wr.iterAt w.heap.size s (pos + 1) := ⟨_, rfl⟩
              rw [← hW1] at hnx hit2 hb2
              clear hit hc hW1
              have hc31 : c ≤ 2147483647 := by omega
              have HGO : Hid (nameB c = true → (pos = 0 → low c = true) → ((bts s).take (pos + 1)).all nameB = true ∧ (0 < pos + 1 → low ((bts s).headD 0) = true)) := Lib.hid (by
                intro h1 h2
                refine ⟨by rw [take_step s hlt HC.out, List.all_append, HALL.out]; simp [h1], fun _ => ?_⟩
                rcases Nat.eq_zero_or_pos pos with h | h
                · have := HC.out
                  subst h
                  rw [head_at s hlt, this]; exact h2 rfl
                · exact HHD.out h)
              cases hL : low c
              · have HL := Lib.hid hL
                clear hL
                rcases Nat.eq_zero_or_pos pos with hp0 | hp0
                · have e : r = false := by rw [HR.out, name_no hlt HC.out (.inr ⟨hp0, HL.out⟩)]
                  subst e
                  have k0 : ((pos : Int) == 0) = true := by simp; omega
                  go_wp2_with (go_at_call 60; (with_reducible refine (isLetter_any c _ hc31).mono ?_); rintro e w' ⟨rfl, rfl⟩; rw [HL.out])
                  go_ret
                  exact ⟨rfl, hb2.out⟩
                · have k0 : ((pos : Int) == 0) = false := by simp; omega
                  cases hD : isd c
                  · have HD := Lib.hid hD
                    clear hD
                    by_cases h95 : c = 95
                    · have c0 : (((c : Nat) : Int) != 95) = false := by simp [h95]
                      have HG := Lib.hid (HGO.out (by simp [nameB, h95]) (fun h => by omega))
                      clear h95
                      go_wp2_with (first | (go_at_call 60; (with_reducible refine (isLetter_any c _ hc31).mono ?_); rintro e w' ⟨rfl, rfl⟩; rw [HL.out]) | (go_at_call 61; (with_reducible refine (isDigit_any c _ hc31).mono ?_); rintro e w' ⟨rfl, rfl⟩; rw [HD.out]))
                      go_roundw
                      case rel => exact ⟨pos + 1, by omega, hit2.out, hb2.out, HG.out⟩
                      case measure => rw [iter_pos hit2.out, iter_pos HIT.out]; omega
                    · have c0 : (((c : Nat) : Int) != 95) = true := by simp; omega
                      have e : r = false := by rw [HR.out, name_no hlt HC.out (.inl (by simp [nameB, HL.out, HD.out, h95]))]
                      subst e
                      clear h95
                      go_wp2_with (first | (go_at_call 60; (with_reducible refine (isLetter_any c _ hc31).mono ?_); rintro e w' ⟨rfl, rfl⟩; rw [HL.out]) | (go_at_call 61; (with_reducible refine (isDigit_any c _ hc31).mono ?_); rintro e w' ⟨rfl, rfl⟩; rw [HD.out]))
                      go_ret
                      exact ⟨rfl, hb2.out⟩
                  · have HD := Lib.hid hD
                    clear hD
                    have HG := Lib.hid (HGO.out (by simp [nameB, HD.out]) (fun h => by omega))
                    go_wp2_with (first | (go_at_call 60; (with_reducible refine (isLetter_any c _ hc31).mono ?_); rintro e w' ⟨rfl, rfl⟩; rw [HL.out]) | (go_at_call 61; (with_reducible refine (isDigit_any c _ hc31).mono ?_); rintro e w' ⟨rfl, rfl⟩; rw [HD.out]))
                    go_roundw
                    case rel => exact ⟨pos + 1, by omega, hit2.out, hb2.out, HG.out⟩
                    case measure => rw [iter_pos hit2.out, iter_pos HIT.out]; omega
              · have HL := Lib.hid hL
                clear hL
                have HG := Lib.hid (HGO.out (by simp [nameB, HL.out]) (fun h => HL.out))
                go_wp2_with (go_at_call 60; (with_reducible refine (isLetter_any c _ hc31).mono ?_); rintro e w' ⟨rfl, rfl⟩; rw [HL.out])
                go_roundw
                case rel => exact ⟨pos + 1, by omega, hit2.out, hb2.out, HG.out⟩
                case measure => rw [iter_pos hit2.out, iter_pos HIT.out]; omega
            · have hnx : ∀ ty, (Instr.next (.pointer (some ⟨w.heap.size, 0, none⟩)) true ty).run Tryd.prog wr = _ := fun ty => Lib.run_next_any_at wr w.heap.size s pos ty hit hlt
              obtain ⟨hr, hw1, hw2, _⟩ := decode_span s pos hlt (by omega)
              have hb2 := Lib.hid (Lib.below_iterAt HBW.out (k := w.heap.size) (Nat.le_refl _) s (pos + (Utf8.decode s pos).2))
              have hr31 := decode_le s pos
              obtain ⟨W1, hW1⟩ : ∃ W1, W1 = wr.iterAt w.heap.size s (pos + (Utf8.decode s pos).2) := ⟨_, rfl⟩
              rw [← hW1] at hnx hb2
              obtain ⟨q, hrr⟩ : ∃ r, (Utf8.decode s pos).1 = r := ⟨_, rfl⟩
              rw [hrr] at hnx hr hr31
              have HD := Lib.hid (isd_not.2 (show q < 48 ∨ 57 < q by omega))
              have HL : Hid (low q = false) := Lib.hid (by simp [low]; omega)
              have c0 : (((q : Nat) : Int) != 95) = true := by simp; omega
              have e : r = false := by rw [HR.out, name_no hlt hc (.inl (by simp [nameB, low, isd]; omega))]
              subst e
              clear hit hc hW1 hrr hw1 hw2
              rcases Nat.eq_zero_or_pos pos with hp0 | hp0
              · have k0 : ((pos : Int) == 0) = true := by simp; omega
                go_wp2_with (first | (go_at_call 60; (with_reducible refine (isLetter_any q _ hr31).mono ?_); rintro e w' ⟨rfl, rfl⟩; rw [HL.out]) | (go_at_call 61; (with_reducible refine (isDigit_any q _ hr31).mono ?_); rintro e w' ⟨rfl, rfl⟩; rw [HD.out]))
                go_ret
                exact ⟨rfl, hb2.out⟩
              · have k0 : ((pos : Int) == 0) = false := by simp; omega
                go_wp2_with (first | (go_at_call 60; (with_reducible refine (isLetter_any q _ hr31).mono ?_); rintro e w' ⟨rfl, rfl⟩; rw [HL.out]) | (go_at_call 61; (with_reducible refine (isDigit_any q _ hr31).mono ?_); rintro e w' ⟨rfl, rfl⟩; rw [HD.out]))
                go_ret
                exact ⟨rfl, hb2.out⟩
          · have hnx : ∀ ty, (Instr.next (.pointer (some ⟨w.heap.size, 0, none⟩)) true ty).run Tryd.prog wr = _ := fun ty => Lib.run_next_end_at wr w.heap.size s pos ty hit hlt
            have hps : pos = s.size := by omega
            have e : r = true := by
              have h1 := HALL.out
              rw [hps, take_all] at h1
              rw [HR.out, HHD.out (by omega), h1]; rfl
            subst e
            clear hit hps
            go_wp2
            go_ret
            exact ⟨rfl, HBW.out⟩
end Go.Proofs.YtpaiapcnoifpmaaDoor
