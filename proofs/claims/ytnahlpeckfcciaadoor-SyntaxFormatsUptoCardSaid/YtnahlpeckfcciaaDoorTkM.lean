/- Proved: strings.SplitSeq's iterator at the separator of one byte 10, for whatever rounds: each is handed the next part of the text, up to the byte; a round may end the loop. Conditions: as each theorem states. -/
import Derived.Test.YtnahlpeckfcciaaDoorTkJ
import Derived.RangeFuncNested
import Derived.RangeFuncBound
import Derived.RangeFuncCalls
import Derived.RangeFuncLeaves
import Derived.Shelf.Abstract
import Derived.Shelf.RegionOpen
import Derived.OwnWalkIn
import Derived.TacticsInMore
import Derived.LoopNIn
import Derived.LoopIn
namespace Go.Proofs.YtnahlpeckfcciaaDoor
open Go.RowKit Go.Shelf
attribute [local go_sem] Oper.semAt_some

def seqWorld (s : ByteArray) (w : World) : World := ((w.alloc (.cells #[.string s] 9)).alloc (.cells #[.string ⟨#[10]⟩] 9)).alloc (.cells #[.int .i64 0] 3)
set_option linter.unusedVariables false in
set_option maxHeartbeats 1600000 in
theorem seqMake_any (s : ByteArray) (w : World) : Calls Tryd.prog 54 #[ .string s, .string ⟨#[10]⟩ ] w fun e w' => e = .returned (.func (.func 69) #[] #[.pointer (some ⟨w.heap.size + 1, 0, none⟩), .pointer (some ⟨w.heap.size, 0, none⟩), .pointer (some ⟨w.heap.size + 2, 0, none⟩)]) ∧ w' = seqWorld s w := by
  go_enter Tryd.func54, Tryd.ntmps54
  go_wp2
  go_ret
  exact ⟨rfl, rfl⟩
def boxLen (W : World) (b : Nat) : Nat := match W.cell? ⟨b, 0, none⟩ with | some (.string t) => t.size | _ => 0
theorem boxLen_of {W : World} {b : Nat} {T : TypeId} {t : ByteArray} (h : Boxed W b T (.string t)) : boxLen W b = t.size := by unfold boxLen; rw [h.cell]
/-- The iterator's own boxes. -/
def SeqB (bs bp bk : Nat) (t : ByteArray) (W : World) : Prop := Boxed W bs 9 (.string t) ∧ Boxed W bp 9 (.string ⟨#[10]⟩) ∧ Boxed W bk 3 (.int .i64 0)
set_option linter.unusedSimpArgs false in
set_option linter.unusedVariables false in
set_option maxHeartbeats 6400000 in
set_option maxRecDepth 100000 in
theorem seq_any (l bs bp bk n : Nat) (hn : 1 ≤ n) (hp : bp ≠ bs) (hk : bk ≠ bs) (J : ByteArray → World → Prop) (Jd Jx : World → Prop)
    (hJ : ∀ t W, J t W → SeqB bs bp bk t W ∧ t.size ≤ 16384)
    (hmid : ∀ t (o : Nat) W, J t W → Lib.indexByte t.data.toList 10 = o → YieldAt Fence.wide (n - 1) Tryd.prog l #[.string (t.extract 0 o)] W fun e W' =>
      (e = .returned (.bool true) ∧ SeqB bs bp bk t W' ∧ J (t.extract (o + 1) t.size) (W'.setCell ⟨bs, 0, none⟩ (.string (t.extract (o + 1) t.size)))) ∨ (e = .returned (.bool false) ∧ Jx W'))
    (hlast : ∀ t W, J t W → Lib.indexByte t.data.toList 10 = -1 → YieldAt Fence.wide (n - 1) Tryd.prog l #[.string t] W fun e W' => (e = .returned (.bool true) ∧ Jd W') ∨ (e = .returned (.bool false) ∧ Jx W'))
    (t0 : ByteArray) (W : World) (h0 : J t0 W) :
    CallsIn Fence.wide n Tryd.prog 69 #[.func (.yield l) #[] #[], .pointer (some ⟨bp, 0, none⟩), .pointer (some ⟨bs, 0, none⟩), .pointer (some ⟨bk, 0, none⟩)] W fun e W' => (∃ v, e = .returned v) ∧ (Jd W' ∨ Jx W') := by
  refine callsIn_of_wp Tryd.func69 rfl trivial ?_ rfl
  simp only [Tryd.ntmps69, List.size_toArray, List.length_cons, List.length_nil, Nat.reduceAdd, Nat.reduceSub, Array.replicate_succ, Array.replicate_zero, List.push_toArray, List.append_toArray, List.nil_append, List.cons_append]
  obtain ⟨⟨b1, b2, b3⟩, b4⟩ := hJ t0 W h0
  have c2 := b2.cell
  clear b1 b2 b3
  gi_wp2
  gi_loopw [7] (fun _ wr => ∃ t, J t wr) (fun _ wr => boxLen wr bs)
  case atStart => exact ⟨t0, h0⟩
  case round =>
    obtain ⟨t, hj⟩ := hrel
    obtain ⟨⟨b1, b2, b3⟩, b4⟩ := hJ t wr hj
    have c1 := b1.cell
    have c2 := b2.cell
    have c3 := b3.cell
    have hge := Lib.indexByte_ge t.data.toList 10
    by_cases hm : Lib.indexByte t.data.toList 10 = -1
    · obtain ⟨fn, tmps, assign, body, hy, hR⟩ := hlast t wr hj hm
      have HM := Lib.hid hm
      clear hm hge hmid hlast b1 b2 b3 hJ
      gi_wp2_with (refine ⟨trivial, ?_⟩; gi_at_call 71; refine (callsIn_wide.2 (Tryd.strings_Index_one t 10 _)).mono ?_; rintro e w' ⟨rfl, rfl⟩; rw [HM.out])
      refine hR.mono ?_
      rintro e W3 (⟨rfl, h⟩ | ⟨rfl, h⟩)
      · gi_wp2
        go_end0
        exact ⟨⟨_, rfl⟩, .inl h⟩
      · gi_wp2
        go_end0
        exact ⟨⟨_, rfl⟩, .inr h⟩
    · obtain ⟨o, ho⟩ : ∃ o : Nat, Lib.indexByte t.data.toList 10 = o := ⟨(Lib.indexByte t.data.toList 10).toNat, by omega⟩
      obtain ⟨p1, _, _⟩ := ind_some ho
      obtain ⟨fn, tmps, assign, body, hy, hR⟩ := hmid t o wr hj ho
      have HM := Lib.hid ho
      have HB1 := Lib.hid b1
      have HJ := Lib.hid hJ
      have k1 : (0 : Int) ≤ ↑o := by omega
      have k2 : (↑o : Int) ≤ ↑t.size := by omega
      have k3 : (0 : Int) ≤ ↑o + 1 := by omega
      have k4 : (↑o + 1 : Int) ≤ ↑t.size := by omega
      clear hm hge ho hmid hlast b1 b2 b3 hJ
      gi_wp2_with (refine ⟨trivial, ?_⟩; gi_at_call 71; refine (callsIn_wide.2 (Tryd.strings_Index_one t 10 _)).mono ?_; rintro e w' ⟨rfl, rfl⟩; rw [HM.out])
      refine hR.mono ?_
      rintro e W3 (⟨rfl, ⟨s1, s2, s3⟩, h⟩ | ⟨rfl, h⟩)
      · have d1 := s1.cell
        have d2 := s2.cell
        have d3 := s3.cell
        have f1 := s1.frozen
        clear s1 s2 s3
        gi_wp2
        go_roundw
        case rel => exact ⟨_, h⟩
        case measure =>
          rw [boxLen_of HB1.out, boxLen_of (HJ.out _ _ h).1.1, ByteArray.size_extract]
          omega
      · gi_wp2
        refine bodyPost_ret (results_none rfl _ _ _) rfl ?_
        exact ⟨⟨_, rfl⟩, .inr h⟩
end Go.Proofs.YtnahlpeckfcciaaDoor
