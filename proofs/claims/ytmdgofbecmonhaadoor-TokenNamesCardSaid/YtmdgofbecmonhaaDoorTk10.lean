/- Proved: the statements' helpers splits, numbers and awake return true. Conditions: as each theorem states. -/
import Derived.Test.YtmdgofbecmonhaaDoorTkD
import Derived.Test.YtmdgofbecmonhaaDoorTk9
namespace Go.Proofs.YtmdgofbecmonhaaDoor
open Go.RowKit

theorem ErrAt.below {W V : World} {b : Nat} {e l : Int} {B : Nat} (h : ErrAt W b e l) (hb : Below B W V) (hB : b < B) : ErrAt V b e l := (hb.block b hB).trans h
theorem ErrAt.alloc {W : World} {b : Nat} {e l : Int} (h : ErrAt W b e l) (o : Obj) : ErrAt (W.alloc o) b e l := (Below.heap_alloc _ _ _ h.lt).trans h
set_option linter.unusedSimpArgs false in
set_option linter.unusedVariables false in
set_option maxRecDepth 100000 in
set_option maxHeartbeats 3200000 in
theorem splits_any (s : ByteArray) (w : World) (hs : s.size ≤ maxLen) :
    Calls Tryd.prog 11 #[ .string s ] w fun e w' => e = .returned (.bool true) ∧ Below w.heap.size w w' := by
  go_enter Tryd.func11, Tryd.ntmps11
  go_wp2_with fail
  refine (tSplit_any s _ hs).mono ?_
  rintro e w1 ⟨v, rfl, ho, hb⟩
  obtain ⟨E, hE⟩ : ∃ E, (splitS s).err = E := ⟨_, rfl⟩
  obtain ⟨L, hL⟩ : ∃ L, (splitS s).ln = L := ⟨_, rfl⟩
  obtain ⟨xs, hxs⟩ : ∃ xs, (splitS s).words.map (wdT s) = xs := ⟨_, rfl⟩
  have r1 := split_rd ho
  rw [hxs] at r1
  rw [hE, hL]
  have R1 := Lib.hid r1
  have B1 := Lib.hid hb
  have HE := Lib.hid hE
  have HL := Lib.hid hL
  have HX := Lib.hid hxs
  clear ho hb r1 hE hL hxs
  go_wp2_with fail
  refine (rSplit_any s _ hs).mono ?_
  rintro e w2 ⟨v2, rfl, ho, hb⟩
  rw [HE.out, HL.out]
  have r2 := split_rd ho
  rw [HX.out] at r2
  have q1 := hb.size
  simp at q1
  have R2 := Lib.hid r2
  have R1' := Lib.hid ((R1.out.below (bl_alloc (Below.refl _ _) _) (Nat.le_refl _)).below hb (Nat.le_refl _))
  have E1 := Lib.hid ((ErrAt.new w1 E L).below hb (by simp))
  have B2 := Lib.hid (bl_next hb (bl_alloc B1.out _))
  clear ho hb r2 R1 B1
  go_wp2_with fail
  refine (same_any v v2 xs _ (R1'.out.below (bl_alloc (Below.refl _ _) _) (Nat.le_refl _)) (R2.out.below (bl_alloc (Below.refl _ _) _) (Nat.le_refl _))).mono ?_
  rintro e w3 ⟨rfl, hb⟩
  have e1 := (E1.out.alloc (.cells #[.int .i64 E, .int .i64 L] 39)).below hb (by simp; omega)
  have e2 := (ErrAt.new w2 E L).below hb (by simp)
  have c0 := e1.c0
  have c1 := e1.c1
  have d0 := e2.c0
  have d1 := e2.c1
  have B3 := Lib.hid (bl_next hb (bl_alloc B2.out _))
  clear hb e1 e2 q1
  go_wp2_with fail
  go_ret
  exact ⟨rfl, B3.out⟩
set_option linter.unusedSimpArgs false in
set_option linter.unusedVariables false in
set_option maxRecDepth 100000 in
set_option maxHeartbeats 3200000 in
theorem numbers_any (s : ByteArray) (w : World) (hs : s.size ≤ maxLen) :
    Calls Tryd.prog 13 #[ .string s ] w fun e w' => e = .returned (.bool true) ∧ Below w.heap.size w w' := by
  obtain ⟨a, ha⟩ : ∃ a, outI (numS (bts s)) = a := ⟨_, rfl⟩
  obtain ⟨b, hb⟩ : ∃ a, outB (numS (bts s)) = a := ⟨_, rfl⟩
  obtain ⟨c, hc⟩ : ∃ a, outI (intS (bts s)) = a := ⟨_, rfl⟩
  obtain ⟨d, hd⟩ : ∃ a, outB (intS (bts s)) = a := ⟨_, rfl⟩
  obtain ⟨n, hn⟩ : ∃ a, nameS (bts s) = a := ⟨_, rfl⟩
  have K1 := tNumber_any s
  have K2 := fun w => rNumber_any s w hs
  have K3 := tInteger_any s
  have K4 := fun w => rInteger_any s w hs
  have K5 := tName_any s
  have K6 := rName_any s
  rw [ha, hb] at K1 K2
  rw [hc, hd] at K3 K4
  rw [hn] at K5 K6
  have H1 := Lib.hid K1
  have H2 := Lib.hid K2
  have H3 := Lib.hid K3
  have H4 := Lib.hid K4
  have H5 := Lib.hid K5
  have H6 := Lib.hid K6
  clear K1 K2 K3 K4 K5 K6 ha hb hc hd hn
  cases b <;> cases d <;> cases n
  all_goals
    go_enter Tryd.func13, Tryd.ntmps13
    go_wp2_with fail
    refine (H1.out _ hs).mono ?_
    rintro e w1 ⟨rfl, hb1⟩
    have B1 := Lib.hid hb1
    clear hb1
    go_wp2_with fail
    refine (H2.out _).mono ?_
    rintro e w2 ⟨rfl, rfl⟩
    go_wp2_with fail
    refine (H3.out _ hs).mono ?_
    rintro e w2 ⟨rfl, hb1⟩
    have B2 := Lib.hid (bl_next hb1 B1.out)
    clear hb1
    go_wp2_with fail
    refine (H4.out _).mono ?_
    rintro e w3 ⟨rfl, rfl⟩
    go_wp2_with fail
    refine (H5.out _).mono ?_
    rintro e w3 ⟨rfl, hb1⟩
    have B3 := Lib.hid (bl_next hb1 B2.out)
    clear hb1
    go_wp2_with fail
    refine (H6.out _).mono ?_
    rintro e w4 ⟨rfl, rfl⟩
    go_wp2_with fail
    go_ret
    exact ⟨rfl, B3.out⟩
theorem awake_split : splitS ⟨#[97, 32, 98, 35, 99]⟩ = .ok [⟨0, 1, 1, 1⟩, ⟨2, 3, 1, 3⟩] := by rfl
theorem awake_words : ([⟨0, 1, 1, 1⟩, ⟨2, 3, 1, 3⟩] : List Wd).map (wdT ⟨#[97, 32, 98, 35, 99]⟩) = [⟨⟨#[97]⟩, 1, 1⟩, ⟨⟨#[98]⟩, 1, 3⟩] := by rfl
theorem awake_num : numS (bts ⟨#[45, 49, 46, 53]⟩) = some (-98304) := by kernel_rfl
theorem awake_lit (W : World) : RdW (W.alloc (.cells #[.string ⟨#[97]⟩, .int .i64 1, .int .i64 1, .string ⟨#[98]⟩, .int .i64 1, .int .i64 3] 43)) (.slice (some ⟨W.heap.size, 0, none⟩) 2 2) [⟨⟨#[97]⟩, 1, 1⟩, ⟨⟨#[98]⟩, 1, 3⟩] := by
  refine ⟨_, _, rfl, by decide, fun k hk => ?_⟩
  match k, hk with
  | 0, _ => exact ⟨_, rfl, by simp, by simp, by simp, by simp⟩
  | 1, _ => exact ⟨_, rfl, by simp, by simp, by simp, by simp⟩
set_option linter.unusedSimpArgs false in
set_option linter.unusedVariables false in
set_option maxRecDepth 100000 in
set_option maxHeartbeats 3200000 in
theorem awake_any (w : World) :
    Calls Tryd.prog 10 #[ ] w fun e w' => e = .returned (.bool true) ∧ Below w.heap.size w w' := by
  go_enter Tryd.func10, Tryd.ntmps10
  go_wp2_with fail
  refine (tSplit_any ⟨#[97, 32, 98, 35, 99]⟩ _ (by decide)).mono ?_
  rintro e w1 ⟨v, rfl, ho, hb⟩
  have r1 := split_rd ho
  rw [awake_split] at r1 ⊢
  have R1 := Lib.hid (show RdW w1 v [⟨⟨#[97]⟩, 1, 1⟩, ⟨⟨#[98]⟩, 1, 3⟩] from awake_words ▸ r1)
  have B1 := Lib.hid hb
  clear ho hb r1
  simp only [Res.err, Res.ln]
  go_wp2_with fail
  refine (tNumber_any _ _ (by decide)).mono ?_
  rw [awake_num]
  rintro e w2 ⟨rfl, hb⟩
  have R2 := Lib.hid ((R1.out.below (bl_alloc (Below.refl _ _) _) (Nat.le_refl _)).below hb (Nat.le_refl _))
  have e1 := (ErrAt.new w1 0 0).below hb (by simp)
  have c0 := e1.c0
  have B2 := Lib.hid (bl_next hb (bl_alloc B1.out _))
  clear hb e1 R1 B1
  simp only [outI, outB, Option.getD, Option.isSome]
  go_wp2_with fail
  refine (same_any _ _ _ _ (R2.out.below (bl_alloc (Below.refl _ _) _) (Nat.le_refl _)) (awake_lit _)).mono ?_
  rintro e w3 ⟨rfl, hb⟩
  have B3 := Lib.hid (bl_next hb (bl_alloc B2.out _))
  clear hb c0
  go_wp2_with fail
  go_ret
  exact ⟨rfl, B3.out⟩
end Go.Proofs.YtmdgofbecmonhaaDoor
