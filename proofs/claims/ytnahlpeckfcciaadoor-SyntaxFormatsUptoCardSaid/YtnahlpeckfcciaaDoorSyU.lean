/- Proved: the developers' Uses and Format return what usesS and fmtS in Sy7 compute, in memory of their own. Conditions: the statements read as a list; for Format, their line's bytes are at most 2^47 in all. -/
import Derived.Test.YtnahlpeckfcciaaDoorSy7
import Derived.Test.YtnahlpeckfcciaaDoorSyB
namespace Go.Proofs.YtnahlpeckfcciaaDoor
open Go.RowKit

set_option linter.unusedSimpArgs false in
set_option linter.unusedVariables false in
set_option maxRecDepth 100000 in
set_option maxHeartbeats 6400000 in
theorem sUses_any (u : Value) (l : List St) (word : ByteArray) (w : World) (hu : RdS w u l) :
    Calls Tryd.prog 20 #[ u, .string word ] w fun e w' => ∃ v, e = .returned v ∧ RdI w' v (usesS l word l.length) ∧ Below w.heap.size w w' := by
  have HU := Lib.hid hu
  obtain ⟨A, c, rfl, hl, hk⟩ := hu
  clear hk
  obtain ⟨i0, hi, hz0, hz1, hz2⟩ := info_parts info_int7
  have HI := Lib.hid hi
  have HZ0 := Lib.hid hz0
  have HZ1 := Lib.hid hz1
  have HZ2 := Lib.hid hz2
  clear hi hz0 hz1 hz2
  go_enter Tryd.func20, Tryd.ntmps20
  go_wp2_with fail
  go_loopw [5, 10] (fun v i wr => ∃ k : Nat, k ≤ l.length ∧ i = .int .i64 k ∧ wr.ownsRow w.heap.size 3 1 v (usesS l word k).length (icells (usesS l word k)) ∧ Below w.heap.size w wr) (fun _ i _ => l.length - (intOf i).toNat)
  case atStart => exact ⟨0, Nat.zero_le _, rfl, World.ownsRow_nil _ _ _ _, Below.refl _ _⟩
  case round =>
    obtain ⟨k, hkl, rfl, hown, hb⟩ := hrel
    obtain ⟨q5, k5, c5, rfl⟩ := own_slc hown
    have HB := Lib.hid hb
    by_cases hlt : k < l.length
    · obtain ⟨_, _, ea, _, hk⟩ := HU.out.below hb (Nat.le_refl _)
      injection ea with ea _ ec
      subst ea ec
      obtain ⟨g, o, va, rfl, hg, a0, a1, a2, a3⟩ := hk k hlt
      obtain ⟨A3, c3, rfl, hl3, ha⟩ := a3
      obtain ⟨n3, hn3⟩ : ∃ n, l[k].args.length = n := ⟨_, rfl⟩
      rw [hn3] at a2
      clear ha hl3 hn3
      have HS := Lib.hid (usesS_succ (word := word) hlt)
      have hul := usesS_len l word k
      have hl2 := hl.2
      obtain ⟨x, hx⟩ : ∃ x, l[k].word = x := ⟨_, rfl⟩
      obtain ⟨ln, hln⟩ : ∃ x, l[k].line = x := ⟨_, rfl⟩
      rw [hx] at a1 HS
      rw [hln] at a0
      have HO := Lib.hid (hown.alloc (.cells #[.int .i64 ln, .string x, .slice A3 n3 c3] 55))
      have HB1 := Lib.hid (hb.alloc hb.size (.cells #[.int .i64 ln, .string x, .slice A3 n3 c3] 55))
      clear hx hln hk hb hown
      by_cases hw : x = word
      · have hsw := same_word hw
        rw [if_pos hw] at HS
        have HOA := Lib.hid (HO.out.alloc (.cells #[.int .i64 (k : Int)] 3))
        have hsz := HB.out.size
        have HNI := Lib.hid (show ∀ j u, [Value.int .i64 (k : Int)][j]? = some u → ((wr.alloc (.cells #[.int .i64 ln, .string x, .slice A3 n3 c3] 55)).alloc (.cells #[.int .i64 (k : Int)] 3)).cell? ((⟨wr.heap.size + 1, 0, none⟩ : Addr).add j) = some u from by simpa using news_int (wr.alloc (.cells #[.int .i64 ln, .string x, .slice A3 n3 c3] 55)) (.int .i64 (k : Int)) 3)
        clear hw
        go_wp2_with (first | (at_builtin; refine wpList_append_own _ rfl (.tmp 19) (.tmp 21) 32 rfl w.heap.size 3 i0 (.int .i64 0) 1 8 under_ints7 HI.out HZ0.out HZ1.out HZ2.out rfl (by decide) _ (usesS l word k).length (icells (usesS l word k)) rfl HOA.out ⟨wr.heap.size + 1, 0, none⟩ 1 1 [.int .i64 (k : Int)] rfl (by rfl) HNI.out (fun u hu => by simp at hu; subst hu; rfl) (by unfold maxLen; omega) (by omega) (by simp; omega) ?_) | fail)
        intro v' w1 hown' hgrow _
        have hPU : w1.ownsRow w.heap.size 3 1 v' (usesS l word (k + 1)).length (icells (usesS l word (k + 1))) := by
          rw [HS.out, List.length_append]
          unfold icells
          rw [List.map_append]
          exact hown'
        have hBN : Below w.heap.size w w1 := (HB1.out.alloc HB1.out.size _).grown hgrow (by simp; omega) (fun j hj => by have := (HO.out.lt j hj).1; omega)
        have HPU := Lib.hid hPU
        have HBN := Lib.hid hBN
        clear hPU hBN hown' hgrow HS
        go_wp2_with fail
        go_roundw
        case rel => exact ⟨k + 1, by omega, by go_num, HPU.out, HBN.out⟩
        case measure => simp [intOf]; omega
      · have hsw := other_word hw
        rw [if_neg hw, List.append_nil] at HS
        clear hw
        go_wp2_with fail
        go_roundw
        case rel => exact ⟨k + 1, by omega, by go_num, by rw [HS.out]; exact HO.out, HB1.out⟩
        case measure => simp [intOf]; omega
    · have hke : k = l.length := by omega
      subst hke
      have hr := own_rdI hown (by have := usesS_len l word l.length; omega)
      have HR := Lib.hid hr
      clear hr hown
      go_wp2_with fail
      go_ret
      exact ⟨_, rfl, HR.out, HB.out⟩
theorem strc_append (a b : ByteArray) : Lib.strCells (a ++ b) = Lib.strCells a ++ Lib.strCells b := by rw [Lib.strCells_eq, Lib.strCells_eq, Lib.strCells_eq, ByteArray.data_append, Array.toList_append, Lib.byteCells_append]
theorem isB_alloc {B b : Nat} {bs : List Value} {w : World} (h : IsB B b bs w) (o : Obj) : IsB B b bs (w.alloc o) := by
  rcases h with ⟨h1, v, h2, h3, h4⟩ | ⟨h1, v, h2, h3, h4⟩
  · exact .inl ⟨h1, v, (Below.heap_alloc _ _ _ (lt_of_block h2)).trans h2, h3.alloc o, h4⟩
  · exact .inr ⟨h1, v, (Below.heap_alloc _ _ _ (lt_of_block h2)).trans h2, h3.alloc o, h4⟩
theorem isB_lt {B b : Nat} {bs : List Value} {w : World} (h : IsB B b bs w) : b < w.heap.size := by
  rcases h with ⟨h1, v, h2, h3, h4⟩ | ⟨h1, v, h2, h3, h4⟩
  · exact lt_of_block h2
  · exact lt_of_block h2
set_option linter.unusedSimpArgs false in
set_option linter.unusedVariables false in
set_option maxRecDepth 100000 in
set_option maxHeartbeats 6400000 in
theorem sFormat_any (u : Value) (l : List St) (w : World) (hu : RdS w u l) (hs : fmtLen l ≤ 140737488355328) :
    Calls Tryd.prog 17 #[ u ] w fun e w' => e = .returned (.string (fmtS l)) ∧ Below w.heap.size w w' := by
  have HU := Lib.hid hu
  obtain ⟨A, c, rfl, hl, hk⟩ := hu
  clear hk
  obtain ⟨F, hF⟩ : ∃ F, fmtS l = F := ⟨_, rfl⟩
  rw [hF]
  have HF := Lib.hid hF
  have hI0 : IsB w.heap.size w.heap.size (Lib.strCells (fmtK l 0)) (w.alloc (.cells #[.pointer none, .slice none 0 0] 86)) :=
    .inl ⟨Nat.le_refl _, _, heap_alloc_new _ _, World.ownsRow_nil _ _ _ _, by simp [Value.ownBlock]⟩
  have HI0 := Lib.hid hI0
  clear hF hI0
  go_enter Tryd.func17, Tryd.ntmps17
  go_wp2_with fail
  go_loopw [10] (fun i wr => ∃ k : Nat, k ≤ l.length ∧ i = .int .i64 k ∧ IsB w.heap.size w.heap.size (Lib.strCells (fmtK l k)) wr ∧ Below w.heap.size w wr) (fun i _ => l.length - (intOf i).toNat)
  case atStart => exact ⟨0, Nat.zero_le _, rfl, HI0.out, (Below.refl _ w).alloc (Nat.le_refl _) _⟩
  case round =>
    obtain ⟨k, hkl, rfl, hib, hb⟩ := hrel
    have HB := Lib.hid hb
    by_cases hlt : k < l.length
    · obtain ⟨_, _, ea, _, hk⟩ := HU.out
      injection ea with ea _ ec
      subst ea ec
      have hlw := isB_lt hib
      obtain ⟨g, o, va, rfl, hg, a0, a1, a2, a3⟩ := hk k hlt
      replace a0 := (hb.cell (p := ⟨g, o + k * 3, none⟩) hg).trans a0
      replace a1 := (hb.cell (p := ⟨g, o + k * 3 + 1, none⟩) hg).trans a1
      replace a2 := (hb.cell (p := ⟨g, o + k * 3 + 2, none⟩) hg).trans a2
      obtain ⟨A3, c3, rfl, hl3, ha⟩ := a3
      have hz := fmtLen_step hlt
      have HSU := Lib.hid (fmtK_succ hlt)
      obtain ⟨b, hbk⟩ : ∃ b, fmtK l k = b := ⟨_, rfl⟩
      rw [hbk] at hz hib
      unfold lineLen at hz
      obtain ⟨word, hword⟩ : ∃ x, l[k].word = x := ⟨_, rfl⟩
      obtain ⟨ln, hln⟩ : ∃ x, l[k].line = x := ⟨_, rfl⟩
      obtain ⟨xs, hxs⟩ : ∃ x, l[k].args = x := ⟨_, rfl⟩
      obtain ⟨L, hL⟩ : ∃ x, argsLen xs = x := ⟨_, rfl⟩
      rw [hln] at a0
      rw [hword] at a1 hz
      rw [hxs] at hl3 ha hz a2
      rw [hL] at hz
      have HX := Lib.hid (show fmtK l (k + 1) = argK xs (b ++ word) xs.length ++ ⟨#[10]⟩ by rw [HSU.out, hxs, hbk, hword])
      have HL := Lib.hid hL
      have HIB := Lib.hid (isB_alloc hib (.cells #[.int .i64 ln, .string word, .slice A3 xs.length c3] 55))
      have HB1 := Lib.hid (hb.alloc hb.size (.cells #[.int .i64 ln, .string word, .slice A3 xs.length c3] 55))
      have hbe := ByteArray.size_append (a := b) (b := word)
      obtain ⟨bw, hbwe⟩ : ∃ x, b ++ word = x := ⟨_, rfl⟩
      rw [hbwe] at hbe
      have HBW := Lib.hid hbwe
      have hbz : bw.size + L + 1 ≤ 140737488355328 := by omega
      have HA := Lib.hid ha
      clear ha HSU hbk hword hln hxs hL hbwe hib hk
      have hS1 := heap_alloc_new wr (.cells #[.int .i64 ln, .string word, .slice A3 xs.length c3] 55)
      go_wp2_with fail
      refine (bWrite_any w.heap.size w.heap.size _ word _ HIB.out (by rw [Lib.strCells_length]; omega) HB1.out.size).mono ?_
      rintro e w2 ⟨rfl, hat, hb2, hst⟩
      have c2 : w2.cell? ⟨wr.heap.size, 2, none⟩ = some (.slice A3 xs.length c3) := cell_of_row _ _ 2 _ _ _ (hst _ _ _ _ hS1 (by decide) (by omega))
      have hB2 : Below w.heap.size w w2 := HB1.out.trans hb2
      rw [← strc_append, HBW.out] at hat
      have HAT := Lib.hid (show IsB w.heap.size w.heap.size (Lib.strCells bw) w2 from .inr hat)
      have HB2 := Lib.hid hB2
      clear hat hb2 hst hB2 hS1
      go_wp2_with fail
      go_loopw [20] (fun i wj => ∃ j : Nat, j ≤ xs.length ∧ i = .int .i64 j ∧ IsB w.heap.size w.heap.size (Lib.strCells (argK xs bw j)) wj ∧ Below w.heap.size w wj) (fun i _ => xs.length - (intOf i).toNat)
      case atStart => exact ⟨0, Nat.zero_le _, rfl, HAT.out, HB2.out⟩
      case round =>
        obtain ⟨j, hj, rfl, hib2, hb3⟩ := hrel
        obtain ⟨d, hd⟩ : ∃ d, argK xs bw j = d := ⟨_, rfl⟩
        have hdz := argK_size xs bw j
        rw [hd] at hdz hib2
        have HB3 := Lib.hid hb3
        have HIB3 := Lib.hid hib2
        clear hib2
        by_cases hjl : j < xs.length
        · obtain ⟨g', o', rfl, hg', b0⟩ := HA.out j hjl
          replace b0 := (hb3.cell (p := ⟨g', o' + j, none⟩) hg').trans b0
          have hst := argsLen_step hjl
          rw [HL.out] at hst
          have HS := Lib.hid (argK_succ (b := bw) hjl)
          rw [hd] at HS
          obtain ⟨y, hy⟩ : ∃ y, xs[j] = y := ⟨_, rfl⟩
          rw [hy] at hst HS b0
          have hdy : d.size + y.size + 1 ≤ 140737488355328 := by omega
          clear hd hdz hst hy hb3
          go_wp2_with fail
          refine (bWrite_any w.heap.size w.heap.size _ ⟨#[32]⟩ _ HIB3.out (by rw [Lib.strCells_length]; have : (⟨#[32]⟩ : ByteArray).size = 1 := rfl; omega) HB3.out.size).mono ?_
          rintro e w4 ⟨rfl, hat, hb4, _⟩
          rw [← strc_append] at hat
          have HAT4 := Lib.hid (show IsB w.heap.size w.heap.size _ w4 from .inr hat)
          have HB4 := Lib.hid (HB3.out.trans hb4)
          clear hat hb4
          go_wp2_with fail
          refine (bWrite_any w.heap.size w.heap.size _ y _ HAT4.out (by rw [Lib.strCells_length, ByteArray.size_append]; have : (⟨#[32]⟩ : ByteArray).size = 1 := rfl; omega) HB4.out.size).mono ?_
          rintro e w5 ⟨rfl, hat, hb5, _⟩
          rw [← strc_append] at hat
          have HAT5 := Lib.hid (show IsB w.heap.size w.heap.size _ w5 from .inr hat)
          have HB5 := Lib.hid (HB4.out.trans hb5)
          clear hat hb5
          go_wp2_with fail
          go_roundw
          case rel => exact ⟨j + 1, by omega, by go_num, by rw [HS.out, ← ByteArray.append_assoc]; exact HAT5.out, HB5.out⟩
          case measure => simp [intOf]; omega
        · have hje : j = xs.length := by omega
          subst hje
          rw [List.take_length, HL.out] at hdz
          have HD := Lib.hid (show fmtK l (k + 1) = d ++ ⟨#[10]⟩ by rw [HX.out, HBW.out, hd])
          have hdy : d.size + 1 ≤ 140737488355328 := by omega
          clear hdz hd hb3
          go_wp2_with fail
          refine (bWrite_any w.heap.size w.heap.size _ ⟨#[10]⟩ _ HIB3.out (by rw [Lib.strCells_length]; have : (⟨#[10]⟩ : ByteArray).size = 1 := rfl; omega) HB3.out.size).mono ?_
          rintro e w4 ⟨rfl, hat, hb4, _⟩
          rw [← strc_append, ← HD.out] at hat
          have HAT4 := Lib.hid (show IsB w.heap.size w.heap.size _ w4 from .inr hat)
          have HB4 := Lib.hid (HB3.out.trans hb4)
          clear hat hb4
          go_wp2_with fail
          go_roundw
          case rel => exact ⟨k + 1, by omega, by go_num, HAT4.out, HB4.out⟩
          case measure => simp [intOf]; omega
    · have hke : k = l.length := by omega
      subst hke
      have hFb : fmtK l l.length = F := HF.out
      rw [hFb, Lib.strCells_eq] at hib
      have HIB := Lib.hid hib
      clear hib
      go_wp2_with fail
      refine (Tryd.Builder_String_any w.heap.size w.heap.size F.data.toList _ HIB.out HB.out.size).mono ?_
      rintro e w2 ⟨rfl, hb2⟩
      go_wp2_with fail
      go_ret
      exact ⟨rfl, HB.out.trans hb2⟩
end Go.Proofs.YtnahlpeckfcciaaDoor
