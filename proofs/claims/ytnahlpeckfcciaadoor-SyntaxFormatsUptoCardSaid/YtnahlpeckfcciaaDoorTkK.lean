/- Proved: the developers' appendWords: a slice that owns the words so far comes back with the words of a line. Conditions: as the theorem states. -/
import Derived.Test.YtnahlpeckfcciaaDoorTkJ
namespace Go.Proofs.YtnahlpeckfcciaaDoor
open Go.RowKit

theorem y_size (x : ByteArray) : (x ++ ⟨#[32]⟩ : ByteArray).size = x.size + 1 := by rw [← bts_len, bts_append, List.length_append, bts_len]; rfl
theorem y_at {x : ByteArray} {j : Nat} (h : j < (x ++ ⟨#[32]⟩ : ByteArray).size) : (x ++ ⟨#[32]⟩ : ByteArray)[j].toNat = (bts x ++ [32]).getD j 0 := by
  have e : bts (x ++ ⟨#[32]⟩) = bts x ++ [32] := by rw [bts_append]; rfl
  rw [← bts_get _ h, List.getD_eq_getElem?_getD, ← e, List.getElem?_eq_getElem (by rw [bts_len]; exact h)]
  rfl
theorem x_at {s : ByteArray} {i m j : Nat} (hb : i + m ≤ s.size) (hj : j < m) : (bts (s.extract i (i + m)) ++ [32]).getD j 0 = s[i + j].toNat := by
  rw [List.getD_eq_getElem?_getD, List.getElem?_append_left (by rw [bts_len, ByteArray.size_extract]; omega), bts_extract, List.getElem?_take_of_lt (by omega), List.getElem?_drop, List.getElem?_eq_getElem (by rw [bts_len]; omega), bts_get s (by omega)]
  rfl
theorem x_end {x : ByteArray} {m : Nat} (h : x.size = m) : (bts x ++ [32]).getD m 0 = 32 := by
  rw [List.getD_eq_getElem?_getD, List.getElem?_append_right (by rw [bts_len]; omega), bts_len, h, Nat.sub_self]
  rfl
theorem x_part {s : ByteArray} {i m a j : Nat} (ha : a ≤ j) (hj : j ≤ m) : (s.extract i (i + m)).extract a j = s.extract (i + a) (i + j) := by
  apply bts_inj
  rw [bts_extract, bts_extract, bts_extract, List.drop_take, List.drop_drop, List.take_take]
  congr 1
  omega
def stA (i a j : Nat) : Option Nat := if a < j then some (i + a) else none
/-- The words of a line, added. -/
def AddP (s : ByteArray) (base i m line : Nat) (R : Res) (w : World) (e : Ending) (w' : World) : Prop :=
  ∃ (v : Value) (out : List Wd), e = .returned v ∧ w'.ownsRow base 99 3 v out.length (wcells s out) ∧ out.length ≤ i + m ∧ Below base w w' ∧ run ((bts s).drop (i + m)) (i + m) line i false none out = R
set_option linter.unusedSimpArgs false in
set_option linter.unusedVariables false in
set_option maxHeartbeats 6400000 in
set_option maxRecDepth 100000 in
theorem addWords_any (s x : ByteArray) (base i m line : Nat) (v0 : Value) (out0 : List Wd) (R : Res) (w : World) (hx : s.extract i (i + m) = x) (hb : i + m ≤ s.size) (hs : s.size ≤ 16384) (hl : line ≤ 20000) (ho : out0.length ≤ i)
    (hperm : (bts x).all pmL = true) (hend : ∀ c u, (bts s).drop (i + m) = c :: u → wb c = false) (hown : w.ownsRow base 99 3 v0 out0.length (wcells s out0)) (hbase : base ≤ w.heap.size) (hrun : run ((bts s).drop i) i line i false none out0 = R) :
    Calls Tryd.prog 57 #[ v0, .string x, .int .i64 line ] w (AddP s base i m line R w) := by
  have xs : x.size = m := by rw [← hx, ByteArray.size_extract]; omega
  have HX := Lib.hid hx
  have HP := Lib.hid hperm
  have HEND := Lib.hid hend
  have HOWN0 := Lib.hid hown
  have HRUN0 := Lib.hid hrun
  have ys := y_size x
  rw [xs] at ys
  have HYS := Lib.hid ys
  have HI := Lib.hid (World.iter_heap w (x ++ ⟨#[32]⟩) 0)
  have B0 := Lib.hid (show Below base w (w.iter (x ++ ⟨#[32]⟩) 0) from (Below.refl base w).alloc hbase _)
  have O0 := Lib.hid (show (w.iter (x ++ ⟨#[32]⟩) 0).ownsRow base 99 3 v0 out0.length (wcells s out0) from HOWN0.out.alloc _)
  obtain ⟨i0, hi, hz0, hz1, hz2⟩ := info_parts info_word
  have HI0 := Lib.hid hi
  have HZ0 := Lib.hid hz0
  have HZ1 := Lib.hid hz1
  have HZ2 := Lib.hid hz2
  clear hi hz0 hz1 hz2 hx hperm hend hown hrun ys
  go_enter Tryd.func57, Tryd.ntmps57
  go_wp2
  go_loopw [0, 7] (fun v0 v7 wr => ∃ (v : Value) (a j : Nat) (out : List Wd), v = v0 ∧ v7 = .int .i64 a ∧ a ≤ j ∧ j ≤ m + 1 ∧ wr.heap[w.heap.size]? = some (.stringIter (x ++ ⟨#[32]⟩) j) ∧ wr.ownsRow base 99 3 v out.length (wcells s out) ∧ Below base w wr ∧ out.length ≤ i + a ∧ out.length ≤ i + m ∧
    (j ≤ m → run ((bts s).drop (i + j)) (i + j) line i false (stA i a j) out = R) ∧ (j = m + 1 → run ((bts s).drop (i + m)) (i + m) line i false none out = R)) (fun _ _ wr => m + 1 - wr.iterPos w.heap.size)
  case atStart => exact ⟨_, 0, 0, out0, rfl, rfl, by omega, by omega, HI.out, O0.out, B0.out, by omega, by omega, fun _ => HRUN0.out, fun h => by omega⟩
  case round =>
    obtain ⟨v, a, j, out, rfl, rfl, haj, hj, hit, hown, hB, hoa, hom, hr1, hr2⟩ := hrel
    have HOWN := Lib.hid hown
    have HB := Lib.hid hB
    have HR1 := Lib.hid hr1
    have HR2 := Lib.hid hr2
    have HIT := Lib.hid hit
    have hks : w.heap.size < wr.heap.size := (Array.getElem?_eq_some_iff.1 hit).1
    clear hown hB hr1 hr2
    by_cases hjm : j ≤ m
    · have hlt : j < (x ++ ⟨#[32]⟩ : ByteArray).size := by rw [HYS.out]; omega
      obtain ⟨c, hc⟩ : ∃ c, (x ++ ⟨#[32]⟩ : ByteArray)[j].toNat = c := ⟨_, rfl⟩
      have hcv : c = (bts x ++ [32]).getD j 0 := by rw [← hc, y_at hlt]
      have hcp : pmL c = true := by
        rw [hcv]
        rcases Nat.lt_or_eq_of_le hjm with h | h
        · rw [List.getD_eq_getElem?_getD, List.getElem?_append_left (by rw [bts_len, xs]; exact h), List.getElem?_eq_getElem (by rw [bts_len, xs]; exact h)]
          exact List.all_eq_true.1 HP.out _ (List.getElem_mem _)
        · rw [h, x_end xs]; rfl
      have hc127 : c ≤ 126 := by
        rcases pmL_iff.1 hcp with h | h | h
        · omega
        · omega
        · exact (wb_iff.1 h).2.1
      have hnx : ∀ ty, (Instr.next (.pointer (some ⟨w.heap.size, 0, none⟩)) true ty).run Tryd.prog wr = _ := fun ty => Lib.run_next_ascii_at wr w.heap.size (x ++ ⟨#[32]⟩) j ty hit hlt (by omega)
      rw [hc] at hnx
      have hit2 := Lib.hid (Lib.iterAt_heap wr w.heap.size (x ++ ⟨#[32]⟩) j (j + 1) hit)
      have hb2 := Lib.hid (Lib.below_iterAt HB.out (k := w.heap.size) hbase (x ++ ⟨#[32]⟩) (j + 1))
      have ho2 := Lib.hid (own_iter HOWN.out hit (j + 1))
      obtain ⟨W1, hW1⟩ : ∃ W1, W1 = wr.iterAt w.heap.size (x ++ ⟨#[32]⟩) (j + 1) := ⟨_, rfl⟩
      rw [← hW1] at hnx hit2 hb2 ho2
      have hks1 : w.heap.size < W1.heap.size := (Array.getElem?_eq_some_iff.1 hit2.out).1
      have hc31 : c ≤ 2147483647 := by omega
      have HCV := Lib.hid hcv
      have HCP := Lib.hid hcp
      clear hit hc hW1 hcv hcp
      cases hw : wb c
      · have HW := Lib.hid hw
        clear hw
        have HN : Hid (∀ out', flush (stA i a j) (i + j) line i out = out' → (j + 1 ≤ m → run ((bts s).drop (i + (j + 1))) (i + (j + 1)) line i false (stA i (j + 1) (j + 1)) out' = R) ∧ (j + 1 = m + 1 → run ((bts s).drop (i + m)) (i + m) line i false none out' = R)) := Lib.hid (by
          rintro out' rfl
          constructor
          · intro h1
            have hd := bts_drop s (i := i + j) (by omega)
            have hcs : s[i + j].toNat = c := by
              have h2 := HCV.out
              rw [← HX.out, x_at hb (by omega)] at h2
              exact h2.symm
            rw [hcs] at hd
            have hg : c = 32 ∨ c = 9 := by
              rcases pmL_iff.1 HCP.out with h | h | h
              · exact .inl h
              · exact .inr h
              · rw [HW.out] at h; cases h
            have := HR1.out (by omega)
            rw [hd, run_gap hg] at this
            unfold stA at this ⊢
            rw [if_neg (by omega), show i + (j + 1) = i + j + 1 by omega]
            exact this
          · intro h1
            have e : j = m := by omega
            have := HR1.out (by omega)
            rw [e] at this ⊢
            rw [run_flush (.inr HEND.out)] at this
            exact this)
        by_cases hlt2 : a < j
        · have c1 : decide ((a : Int) < (j : Int)) = true := by simp; omega
          have hxp := x_part (s := s) (i := i) (m := m) haj hjm
          rw [HX.out] at hxp
          have HXP := Lib.hid hxp
          have hst : stA i a j = some (i + a) := by unfold stA; rw [if_pos hlt2]
          have HST := Lib.hid hst
          have sl := fun w => run_slice_string (P := Tryd.prog) w 9 x .i64 .i64 (a : Int) (j : Int) (by kernel_rfl) (by omega) (by omega) (by omega)
          clear hxp hst
          go_wp2_with (go_at_call 65; (with_reducible refine (isWord_any c _ hc31).mono ?_); rintro e w' ⟨rfl, rfl⟩; rw [HW.out])
          refine (clone_any (x.extract a j) _ (by rw [ByteArray.size_extract]; omega)).mono ?_
          rintro e W2 ⟨rfl, hB2⟩
          have ho3 := own_below ho2.out hB2
          have hit3 : W2.heap[w.heap.size]? = some (.stringIter (x ++ ⟨#[32]⟩) (j + 1)) := (hB2.block _ hks1).trans hit2.out
          have hb3 : Below base w W2 := hb2.out.trans (hB2.mono (by omega))
          have hks2 : w.heap.size < W2.heap.size := (Array.getElem?_eq_some_iff.1 hit3).1
          have HO3 := Lib.hid ho3
          have HIT3 := Lib.hid hit3
          have HB3 := Lib.hid hb3
          have HOA := Lib.hid (ho3.alloc (.cells #[.string (x.extract a j), .int .i64 line, .int .i64 ((a : Int) + 1)] 99))
          clear hB2 ho3 hit3 hb3
          go_wp2_with (at_builtin; refine wpList_append_own _ rfl (.tmp 22) (.tmp 32) 92 rfl base 99 i0 (.agg #[.string ⟨#[]⟩, .int .i64 0, .int .i64 0]) 3 32 under_words HI0.out HZ0.out HZ1.out HZ2.out rfl (by decide) _ out.length (wcells s out) rfl HOA.out ⟨W2.heap.size, 0, none⟩ 1 1 [.string (x.extract a j), .int .i64 line, .int .i64 ((a : Int) + 1)] rfl rfl (news3 W2 _ _ _ _) (fun u hu => by simp at hu; rcases hu with rfl | rfl | rfl <;> rfl) (by unfold maxLen; omega) (by omega) (by simp; omega) ?_)
          intro v' w1 hown' hgrow _
          have hit4 : w1.heap[w.heap.size]? = some (.stringIter (x ++ ⟨#[32]⟩) (j + 1)) := by
            rw [hgrow.block w.heap.size (by simp; omega) (own_block HO3.out HIT3.out), Below.heap_alloc _ _ _ hks2]; exact HIT3.out
          have hb4 : Below base w w1 := (HB3.out.alloc (by omega) _).grown hgrow (by simp; omega) (fun q hq => (HO3.out.lt q hq).1)
          have hown4 : w1.ownsRow base 99 3 v' (out ++ [(⟨i + a, i + j, line, ((i + a : Nat) : Int) - (i : Nat) + 1⟩ : Wd)]).length (wcells s (out ++ [(⟨i + a, i + j, line, ((i + a : Nat) : Int) - (i : Nat) + 1⟩ : Wd)])) := by
            rw [wcells_snoc, List.length_append]
            have e : wcell s ⟨i + a, i + j, line, ((i + a : Nat) : Int) - (i : Nat) + 1⟩ = [.string (x.extract a j), .int .i64 line, .int .i64 ((a : Int) + 1)] := by
              unfold wcell
              rw [HXP.out]
              simp only [List.cons.injEq, and_true, true_and, Value.int.injEq]
              omega
            rw [e]
            exact hown'
          have HG := Lib.hid (HN.out (out ++ [(⟨i + a, i + j, line, ((i + a : Nat) : Int) - (i : Nat) + 1⟩ : Wd)]) (by rw [HST.out]; rfl))
          have HIT4 := Lib.hid hit4
          have HB4 := Lib.hid hb4
          have HOWN4 := Lib.hid hown4
          clear hit4 hb4 hown4 hown' hgrow
          go_wp2_with fail
          go_roundw
          case rel => exact ⟨_, j + 1, j + 1, _, rfl, by go_num, by omega, by omega, HIT4.out, HOWN4.out, HB4.out, by simp; omega, by simp; omega, HG.out.1, HG.out.2⟩
          case measure => rw [iter_pos HIT4.out, iter_pos HIT.out]; omega
        · have c1 : decide ((a : Int) < (j : Int)) = false := by simp; omega
          have hst : stA i a j = none := by unfold stA; rw [if_neg hlt2]
          have HG := Lib.hid (HN.out out (by rw [hst]; rfl))
          clear hst
          go_wp2_with (go_at_call 65; (with_reducible refine (isWord_any c _ hc31).mono ?_); rintro e w' ⟨rfl, rfl⟩; rw [HW.out])
          go_roundw
          case rel => exact ⟨_, j + 1, j + 1, out, rfl, by go_num, by omega, by omega, hit2.out, ho2.out, hb2.out, by omega, hom, HG.out.1, HG.out.2⟩
          case measure => rw [iter_pos hit2.out, iter_pos HIT.out]; omega
      · have HW := Lib.hid hw
        clear hw
        have hjm2 : j < m := by
          rcases Nat.lt_or_eq_of_le hjm with h | h
          · exact h
          · have h2 := HCV.out
            rw [h, x_end xs] at h2
            have h3 := HW.out
            rw [h2] at h3
            cases h3
        have HG := Lib.hid (show run ((bts s).drop (i + (j + 1))) (i + (j + 1)) line i false (stA i a (j + 1)) out = R by
          have hd := bts_drop s (i := i + j) (by omega)
          have hcs : s[i + j].toNat = c := by
            have h2 := HCV.out
            rw [← HX.out, x_at hb hjm2] at h2
            exact h2.symm
          rw [hcs] at hd
          have := HR1.out (by omega)
          rw [hd, run_word HW.out] at this
          have e : stA i a (j + 1) = some ((stA i a j).getD (i + j)) := by
            unfold stA
            rw [if_pos (by omega)]
            by_cases h : a < j
            · rw [if_pos h]; rfl
            · rw [if_neg h, show a = j by omega]; rfl
          rw [e, show i + (j + 1) = i + j + 1 by omega]
          exact this)
        go_wp2_with (go_at_call 65; (with_reducible refine (isWord_any c _ hc31).mono ?_); rintro e w' ⟨rfl, rfl⟩; rw [HW.out])
        go_roundw
        case rel => exact ⟨_, a, j + 1, out, rfl, rfl, by omega, by omega, hit2.out, ho2.out, hb2.out, hoa, hom, fun _ => HG.out, fun h => by omega⟩
        case measure => rw [iter_pos hit2.out, iter_pos HIT.out]; omega
    · have hjn : j = m + 1 := by omega
      have hlt : ¬ j < (x ++ ⟨#[32]⟩ : ByteArray).size := by rw [HYS.out]; omega
      have hnx : ∀ ty, (Instr.next (.pointer (some ⟨w.heap.size, 0, none⟩)) true ty).run Tryd.prog wr = _ := fun ty => Lib.run_next_end_at wr w.heap.size (x ++ ⟨#[32]⟩) j ty hit hlt
      have HG := Lib.hid (HR2.out hjn)
      clear hit hjn hlt
      go_wp2
      go_ret
      exact ⟨_, out, rfl, HOWN.out, hom, HB.out, HG.out⟩
end Go.Proofs.YtnahlpeckfcciaaDoor
