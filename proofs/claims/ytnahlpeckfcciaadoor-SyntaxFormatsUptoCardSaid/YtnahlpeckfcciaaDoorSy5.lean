/- Proved: the statements SyntaxParses and SyntaxArguments return true. Conditions: as each theorem states. -/
import Derived.Test.YtnahlpeckfcciaaDoorSyP
import Derived.Test.YtnahlpeckfcciaaDoorSyU
import Derived.Test.YtnahlpeckfcciaaDoorSy6
import Derived.Test.YtnahlpeckfcciaaDoorTk11
import Derived.Test.YtnahlpeckfcciaaDoorRnd
namespace Go.Proofs.YtnahlpeckfcciaaDoor
open Go.RowKit

/-- A text that is empty, or whose last byte ends a line. -/
def EndsL (b : ByteArray) : Prop := bts b = [] ∨ ∃ x, bts b = x ++ [10]
/-- Bytes that a description may hold outside of comments. -/
def Clean (b : ByteArray) : Prop := ∀ c ∈ bts b, 9 ≤ c ∧ c ≤ 10 ∨ 32 ≤ c ∧ c ≤ 126
theorem Clean.push {b t : ByteArray} (hb : Clean b) (ht : Clean t) : Clean (b ++ t) := by
  intro c hc
  rw [bts_append, List.mem_append] at hc
  exact hc.elim (hb c) (ht c)
theorem EndsL.push {b t : ByteArray} (h : ∃ x, bts t = x ++ [10]) : EndsL (b ++ t) := by
  obtain ⟨x, hx⟩ := h
  exact .inr ⟨bts b ++ x, by rw [bts_append, hx, List.append_assoc]⟩
def tabT : Nat → ByteArray
  | 0 => ⟨#[115, 107, 105, 112, 32, 97, 32, 98, 10]⟩
  | 1 => ⟨#[109, 97, 115, 115, 32, 97, 32, 49, 32, 48, 32, 48, 32, 48, 10]⟩
  | 2 => ⟨#[108, 105, 109, 105, 116, 32, 97, 32, 49, 32, 49, 32, 49, 10]⟩
  | 3 => ⟨#[106, 111, 105, 110, 116, 32, 97, 32, 116, 117, 114, 110, 122, 32, 119, 111, 114, 108, 100, 32, 48, 32, 48, 32, 48, 32, 48, 32, 49, 32, 49, 10]⟩
  | 4 => ⟨#[115, 104, 97, 112, 101, 32, 97, 32, 49, 32, 48, 32, 48, 32, 48, 10]⟩
  | 5 => ⟨#[115, 104, 97, 112, 101, 32, 97, 32, 49, 32, 48, 32, 48, 32, 48, 32, 49, 32, 49, 32, 49, 32, 35, 32, 116, 119, 111, 10]⟩
  | 6 => ⟨#[10]⟩
  | 7 => ⟨#[115, 107, 105, 112, 32, 97, 10]⟩
  | 8 => ⟨#[104, 111, 112, 10]⟩
  | 9 => ⟨#[32, 32, 115, 107, 105, 112, 32, 32, 120, 9, 121, 10]⟩
  | 10 => ⟨#[35, 32, 110, 111, 116, 101, 10]⟩
  | _ => ⟨#[115, 104, 97, 112, 101, 32, 97, 32, 49, 32, 50, 32, 51, 32, 52, 32, 53, 10]⟩
set_option maxRecDepth 100000 in
theorem tabT_fine (m : Nat) : (tabT m).size ≤ 36 ∧ (∃ x, bts (tabT m) = x ++ [10]) ∧ Clean (tabT m) := by
  unfold tabT
  split
  · exact ⟨by decide, ⟨[115, 107, 105, 112, 32, 97, 32, 98], by rfl⟩, by unfold Clean; decide⟩
  · exact ⟨by decide, ⟨[109, 97, 115, 115, 32, 97, 32, 49, 32, 48, 32, 48, 32, 48], by rfl⟩, by unfold Clean; decide⟩
  · exact ⟨by decide, ⟨[108, 105, 109, 105, 116, 32, 97, 32, 49, 32, 49, 32, 49], by rfl⟩, by unfold Clean; decide⟩
  · exact ⟨by decide, ⟨[106, 111, 105, 110, 116, 32, 97, 32, 116, 117, 114, 110, 122, 32, 119, 111, 114, 108, 100, 32, 48, 32, 48, 32, 48, 32, 48, 32, 49, 32, 49], by rfl⟩, by unfold Clean; decide⟩
  · exact ⟨by decide, ⟨[115, 104, 97, 112, 101, 32, 97, 32, 49, 32, 48, 32, 48, 32, 48], by rfl⟩, by unfold Clean; decide⟩
  · exact ⟨by decide, ⟨[115, 104, 97, 112, 101, 32, 97, 32, 49, 32, 48, 32, 48, 32, 48, 32, 49, 32, 49, 32, 49, 32, 35, 32, 116, 119, 111], by rfl⟩, by unfold Clean; decide⟩
  · exact ⟨by decide, ⟨[], by rfl⟩, by unfold Clean; decide⟩
  · exact ⟨by decide, ⟨[115, 107, 105, 112, 32, 97], by rfl⟩, by unfold Clean; decide⟩
  · exact ⟨by decide, ⟨[104, 111, 112], by rfl⟩, by unfold Clean; decide⟩
  · exact ⟨by decide, ⟨[32, 32, 115, 107, 105, 112, 32, 32, 120, 9, 121], by rfl⟩, by unfold Clean; decide⟩
  · exact ⟨by decide, ⟨[35, 32, 110, 111, 116, 101], by rfl⟩, by unfold Clean; decide⟩
  · exact ⟨by decide, ⟨[115, 104, 97, 112, 101, 32, 97, 32, 49, 32, 50, 32, 51, 32, 52, 32, 53], by rfl⟩, by unfold Clean; decide⟩
set_option maxRecDepth 100000 in
theorem tab12 (m : Nat) (h : m < 12) : ∀ w, (Instr.index 60 (.agg #[.string ⟨#[115, 107, 105, 112, 32, 97, 32, 98, 10]⟩, .string ⟨#[109, 97, 115, 115, 32, 97, 32, 49, 32, 48, 32, 48, 32, 48, 10]⟩, .string ⟨#[108, 105, 109, 105, 116, 32, 97, 32, 49, 32, 49, 32, 49, 10]⟩, .string ⟨#[106, 111, 105, 110, 116, 32, 97, 32, 116, 117, 114, 110, 122, 32, 119, 111, 114, 108, 100, 32, 48, 32, 48, 32, 48, 32, 48, 32, 49, 32, 49, 10]⟩, .string ⟨#[115, 104, 97, 112, 101, 32, 97, 32, 49, 32, 48, 32, 48, 32, 48, 10]⟩, .string ⟨#[115, 104, 97, 112, 101, 32, 97, 32, 49, 32, 48, 32, 48, 32, 48, 32, 49, 32, 49, 32, 49, 32, 35, 32, 116, 119, 111, 10]⟩, .string ⟨#[10]⟩, .string ⟨#[115, 107, 105, 112, 32, 97, 10]⟩, .string ⟨#[104, 111, 112, 10]⟩, .string ⟨#[32, 32, 115, 107, 105, 112, 32, 32, 120, 9, 121, 10]⟩, .string ⟨#[35, 32, 110, 111, 116, 101, 10]⟩, .string ⟨#[115, 104, 97, 112, 101, 32, 97, 32, 49, 32, 50, 32, 51, 32, 52, 32, 53, 10]⟩]) (.int .u8 (m : Int))).run Tryd.prog w = .ok (.string (tabT m)) w := by
  rcases (show m = 0 ∨ m = 1 ∨ m = 2 ∨ m = 3 ∨ m = 4 ∨ m = 5 ∨ m = 6 ∨ m = 7 ∨ m = 8 ∨ m = 9 ∨ m = 10 ∨ m = 11 by omega) with rfl | rfl | rfl | rfl | rfl | rfl | rfl | rfl | rfl | rfl | rfl | rfl
  all_goals exact fun w => by kernel_rfl
/-- The text that typical makes of the first k numbers. -/
def typK (zs : List Nat) : Nat → ByteArray
  | 0 => ⟨#[]⟩
  | k + 1 => typK zs k ++ tabT (zs.getD k 0 % 12)
def typT (zs : List Nat) : ByteArray := typK zs (min zs.length 40)
theorem typK_size (zs : List Nat) (k : Nat) : (typK zs k).size ≤ 36 * k := by
  induction k with
  | zero => exact Nat.le_refl 0
  | succ k ih => rw [typK, ByteArray.size_append]; have := (tabT_fine (zs.getD k 0 % 12)).1; omega
theorem typK_ends (zs : List Nat) (k : Nat) : EndsL (typK zs k) := by
  cases k with
  | zero => exact .inl rfl
  | succ k => exact EndsL.push (tabT_fine _).2.1
theorem typK_clean (zs : List Nat) (k : Nat) : Clean (typK zs k) := by
  induction k with
  | zero => intro c h; cases h
  | succ k ih => exact ih.push (tabT_fine _).2.2
theorem typT_size (zs : List Nat) : (typT zs).size ≤ 1440 := by have := typK_size zs (min zs.length 40); unfold typT; omega
/-- A slice of these bytes lies in memory that was there. -/
def BytesIs (W : World) (a : Option Addr) (zs : List Nat) : Prop := zs.length ≤ 9223372036854775807 ∧
  ∀ t (h : t < zs.length), ∃ lb lo : Nat, a = some ⟨lb, lo, none⟩ ∧ lb < W.heap.size ∧ W.cell? ⟨lb, lo + t, none⟩ = some (.int .u8 (zs[t] : Nat)) ∧ zs[t] < 256
theorem BytesIs.below {W V : World} {a : Option Addr} {zs : List Nat} (h : BytesIs W a zs) (hb : Below W.heap.size W V) : BytesIs V a zs :=
  ⟨h.1, fun t ht => by
    obtain ⟨lb, lo, e, hl, hz, z1⟩ := h.2 t ht
    have := hb.size
    exact ⟨lb, lo, e, by omega, by rw [hb.cell (p := ⟨lb, lo + t, none⟩) hl]; exact hz, z1⟩⟩
theorem bytes_is {W : World} {a : Option Addr} {n : Nat} (h : BytesAt W a n) : ∃ zs : List Nat, zs.length = n ∧ BytesIs W a zs := by
  have h' : ∀ t : Fin n, ∃ z : Nat, ∃ lb lo : Nat, a = some ⟨lb, lo, none⟩ ∧ lb < W.heap.size ∧ W.cell? ⟨lb, lo + t.val, none⟩ = some (.int .u8 z) ∧ z < 256 := fun t => by
    obtain ⟨lb, lo, z, e, hl, hz, z1⟩ := h.2 t.val t.isLt
    exact ⟨z, lb, lo, e, hl, hz, z1⟩
  refine ⟨List.ofFn fun t => (h' t).choose, List.length_ofFn, by rw [List.length_ofFn]; exact h.1, fun t ht => ?_⟩
  rw [List.length_ofFn] at ht
  obtain ⟨lb, lo, e, hl, hz, z1⟩ := (h' ⟨t, ht⟩).choose_spec
  exact ⟨lb, lo, e, hl, by rw [List.getElem_ofFn]; exact hz, by rw [List.getElem_ofFn]; exact z1⟩
theorem tab6 (m : Nat) (h : m < 6) : ∃ t : ByteArray, t.size ≤ 5 ∧ ∀ w, (Instr.index 27 (.agg #[.string ⟨#[106, 111, 105, 110, 116]⟩, .string ⟨#[108, 105, 109, 105, 116]⟩, .string ⟨#[109, 97, 115, 115]⟩, .string ⟨#[115, 104, 97, 112, 101]⟩, .string ⟨#[115, 107, 105, 112]⟩, .string ⟨#[119, 111, 114, 108, 100]⟩]) (.int .u8 (m : Int))).run Tryd.prog w = .ok (.string t) w := by
  rcases (show m = 0 ∨ m = 1 ∨ m = 2 ∨ m = 3 ∨ m = 4 ∨ m = 5 by omega) with rfl | rfl | rfl | rfl | rfl | rfl
  · exact ⟨⟨#[106, 111, 105, 110, 116]⟩, by decide, fun w => by kernel_rfl⟩
  · exact ⟨⟨#[108, 105, 109, 105, 116]⟩, by decide, fun w => by kernel_rfl⟩
  · exact ⟨⟨#[109, 97, 115, 115]⟩, by decide, fun w => by kernel_rfl⟩
  · exact ⟨⟨#[115, 104, 97, 112, 101]⟩, by decide, fun w => by kernel_rfl⟩
  · exact ⟨⟨#[115, 107, 105, 112]⟩, by decide, fun w => by kernel_rfl⟩
  · exact ⟨⟨#[119, 111, 114, 108, 100]⟩, by decide, fun w => by kernel_rfl⟩
theorem awake7_parse : parseS ⟨#[115, 107, 105, 112, 32, 97, 32, 98, 32, 35, 32, 110, 101, 97, 114]⟩ = ⟨[⟨1, ⟨#[115, 107, 105, 112]⟩, [⟨#[97]⟩, ⟨#[98]⟩]⟩], 0, 0⟩ := by kernel_rfl
theorem awake7_lit (W : World) (m : Nat) (hm : W.heap.size = m) : RdS ((W.alloc (.cells #[.string ⟨#[97]⟩, .string ⟨#[98]⟩] 9)).alloc (.cells #[.int .i64 1, .string ⟨#[115, 107, 105, 112]⟩, .slice (some ⟨m, 0, none⟩) 2 2] 55)) (.slice (some ⟨m + 1, 0, none⟩) 1 1) [⟨1, ⟨#[115, 107, 105, 112]⟩, [⟨#[97]⟩, ⟨#[98]⟩]⟩] := by
  subst hm
  refine ⟨_, _, rfl, by decide, fun k hk => ?_⟩
  match k, hk with
  | 0, _ =>
    refine ⟨_, 0, .slice (some ⟨W.heap.size, 0, none⟩) 2 2, rfl, by simp, by simp, by simp, by simp, _, _, rfl, by simp, fun j hj => ?_⟩
    match j, hj with
    | 0, _ => exact ⟨_, 0, rfl, by simp; omega, by simp⟩
    | 1, _ => exact ⟨_, 0, rfl, by simp; omega, by simp⟩
set_option linter.unusedSimpArgs false in
set_option linter.unusedVariables false in
set_option maxRecDepth 100000 in
set_option maxHeartbeats 6400000 in
theorem awake7_any (w : World) :
    Calls Tryd.prog 9 #[ ] w fun e w' => e = .returned (.bool true) ∧ Below w.heap.size w w' := by
  go_enter Tryd.func9, Tryd.ntmps9
  go_wp2_with fail
  refine (sParse_any ⟨#[115, 107, 105, 112, 32, 97, 32, 98, 32, 35, 32, 110, 101, 97, 114]⟩ _ (by decide)).mono ?_
  rintro e w1 ⟨v, rfl, r1, hb⟩
  rw [awake7_parse] at r1 ⊢
  have R1 := Lib.hid r1
  have B1 := Lib.hid hb
  clear r1 hb
  simp only
  go_wp2_with fail
  have hlit := awake7_lit (w1.alloc (.cells #[.int .i64 0, .int .i64 0] 49)) (w1.heap.size + 1) (by simp)
  refine (sameS_any _ _ _ _ true _ (R1.out.below (((bl_alloc (bl_alloc (bl_alloc (Below.refl _ _) _) _) _))) (Nat.le_refl _)) hlit (alike_refl _ _)).mono ?_
  rintro e w3 ⟨rfl, hb⟩
  have B3 := Lib.hid (bl_next hb (bl_alloc (bl_alloc (bl_alloc B1.out _) _) _))
  clear hb
  go_wp2_with fail
  go_ret
  exact ⟨rfl, B3.out⟩
set_option linter.unusedSimpArgs false in
set_option linter.unusedVariables false in
set_option maxRecDepth 100000 in
set_option maxHeartbeats 6400000 in
theorem typical7_any (a : Option Addr) (cap : Nat) (zs : List Nat) (w : World) (l : BytesIs w a zs) :
    Calls Tryd.prog 11 #[ .slice a zs.length cap ] w fun e w' => e = .returned (.string (typT zs)) ∧ w = w' := by
  have hn := l.1
  have HBY := Lib.hid l
  clear l
  obtain ⟨n, hnl⟩ : ∃ n, zs.length = n := ⟨_, rfl⟩
  unfold typT
  rw [hnl] at hn ⊢
  have HNL := Lib.hid hnl
  obtain ⟨T, hT⟩ : ∃ T, typK zs (min n 40) = T := ⟨_, rfl⟩
  rw [hT]
  have HTE := Lib.hid hT
  clear hnl hT
  go_enter Tryd.func11, Tryd.ntmps11
  go_wp2_with fail
  go_loop [3, 4] (fun s i => ∃ (k : Nat), k ≤ n ∧ k ≤ 40 ∧ i = .int .i64 k ∧ s = .string (typK zs k)) (fun _ i => n - (intOf i).toNat)
  case atStart => exact ⟨0, by omega, by omega, rfl, rfl⟩
  case round =>
    obtain ⟨k, hk, hk2, rfl, rfl⟩ := hrel
    obtain ⟨b, hb⟩ : ∃ b, typK zs k = b := ⟨_, rfl⟩
    have hbz : b.size ≤ 36 * k := hb ▸ typK_size zs k
    rw [hb]
    have HB := Lib.hid hb
    clear hb
    by_cases hlt : k < n
    · by_cases hlm : k < 40
      · obtain ⟨lb, lo, rfl, hl, hz, z1⟩ := HBY.out.2 k (by rw [HNL.out]; exact hlt)
        obtain ⟨z, hzz⟩ : ∃ z : Nat, zs.getD k 0 = z := ⟨_, rfl⟩
        have hz2 : zs[k]'(by rw [HNL.out]; exact hlt) = z := by rw [← hzz, List.getD_eq_getElem?_getD, List.getElem?_eq_getElem (by rw [HNL.out]; exact hlt)]; rfl
        rw [hz2] at hz z1
        obtain ⟨m, hm⟩ : ∃ m : Nat, z % 12 = m := ⟨_, rfl⟩
        have hmi : (z : Int) % 12 = (m : Int) := by omega
        have hix := tab12 m (by omega)
        have HT := Lib.hid (show typK zs (k + 1) = b ++ tabT m by rw [typK, HB.out, hzz, hm])
        have ht := (tabT_fine m).1
        obtain ⟨t, htt⟩ : ∃ t, tabT m = t := ⟨_, rfl⟩
        rw [htt] at hix ht
        have HTT := Lib.hid htt
        clear hm hz2 hzz htt
        go_wp2_with fail
        go_round
        case rel => exact ⟨k + 1, by omega, by omega, by go_num, by rw [HT.out, HTT.out]⟩
        case measure => simp [intOf]; omega
      · have hTb : T = b := by rw [← HTE.out, ← HB.out, show min n 40 = k by omega]
        subst hTb
        go_wp2_with fail
        go_ret
        exact ⟨rfl, rfl⟩
    · have hTb : T = b := by rw [← HTE.out, ← HB.out, show min n 40 = k by omega]
      subst hTb
      go_wp2_with fail
      go_ret
      exact ⟨rfl, rfl⟩
set_option linter.unusedSimpArgs false in
set_option linter.unusedVariables false in
set_option maxRecDepth 100000 in
set_option maxHeartbeats 6400000 in
theorem parses_any (s : ByteArray) (w : World) (hs : s.size ≤ maxLen) :
    Calls Tryd.prog 10 #[ .string s ] w fun e w' => e = .returned (.bool true) ∧ Below w.heap.size w w' := by
  go_enter Tryd.func10, Tryd.ntmps10
  go_wp2_with fail
  refine (sParse_any s _ hs).mono ?_
  rintro e w1 ⟨v, rfl, r1, hb⟩
  obtain ⟨E, hE⟩ : ∃ E, (parseS s).err = E := ⟨_, rfl⟩
  obtain ⟨K, hK⟩ : ∃ K, (parseS s).ln = K := ⟨_, rfl⟩
  obtain ⟨xs, hxs⟩ : ∃ xs, (parseS s).sts = xs := ⟨_, rfl⟩
  rw [hxs] at r1
  rw [hE, hK]
  have R1 := Lib.hid r1
  have B1 := Lib.hid hb
  have HE := Lib.hid hE
  have HK := Lib.hid hK
  have HX := Lib.hid hxs
  clear hb r1 hE hK hxs
  go_wp2_with fail
  refine (rParse_any s _ hs).mono ?_
  rintro e w2 ⟨v2, rfl, r2, hb⟩
  rw [HE.out, HK.out]
  rw [HX.out] at r2
  have q1 := hb.size
  simp at q1
  have R2 := Lib.hid r2
  have R1' := Lib.hid ((R1.out.below (bl_alloc (Below.refl _ _) _) (Nat.le_refl _)).below hb (Nat.le_refl _))
  have E1 := Lib.hid ((ErrAt.new w1 E K).below hb (by simp))
  have B2 := Lib.hid (bl_next hb (bl_alloc B1.out _))
  clear hb r2 R1 B1
  go_wp2_with fail
  refine (sameS_any v v2 xs xs true _ (R1'.out.below (bl_alloc (Below.refl _ _) _) (Nat.le_refl _)) (R2.out.below (bl_alloc (Below.refl _ _) _) (Nat.le_refl _)) (alike_refl _ _)).mono ?_
  rintro e w3 ⟨rfl, hb⟩
  have e1 := (E1.out.alloc (.cells #[.int .i64 E, .int .i64 K] 49)).below hb (by simp; omega)
  have e2 := (ErrAt.new w2 E K).below hb (by simp)
  have c0 := e1.c0
  have c1 := e1.c1
  have d0 := e2.c0
  have d1 := e2.c1
  have B3 := Lib.hid (bl_next hb (bl_alloc B2.out _))
  clear hb e1 e2 q1
  go_wp2_with fail
  go_ret
  exact ⟨rfl, B3.out⟩
set_option linter.unusedSimpArgs false in
set_option linter.unusedVariables false in
set_option maxRecDepth 100000 in
set_option maxHeartbeats 6400000 in
theorem SyntaxParses_any (s : ByteArray) (a : Option Addr) (n cap : Nat) (w : World) (hs : s.size ≤ 140737488355328) (l : BytesAt w a n) :
    Calls Tryd.prog 3 #[ .string s, .slice a n cap ] w fun e w' => e = .returned (.bool true) ∧ Below w.heap.size w w' := by
  obtain ⟨zs, hzl, hzs⟩ := bytes_is l
  subst hzl
  have HBY := Lib.hid hzs
  have htz := typT_size zs
  obtain ⟨b, hb⟩ : ∃ b, typT zs = b := ⟨_, rfl⟩
  have KT := fun (w : World) (h : BytesIs w a zs) => typical7_any a cap zs w h
  rw [hb] at KT htz
  have HT := Lib.hid KT
  clear l hzs KT hb
  go_enter Tryd.func3, Tryd.ntmps3
  go_wp2_with fail
  refine (awake7_any _).mono ?_
  rintro e w1 ⟨rfl, hb⟩
  have B1 := Lib.hid hb
  clear hb
  go_wp2_with fail
  refine (parses_any s _ (by unfold maxLen; omega)).mono ?_
  rintro e w2 ⟨rfl, hb⟩
  have B2 := Lib.hid (bl_next hb B1.out)
  clear hb
  go_wp2_with fail
  refine (HT.out _ (HBY.out.below B2.out)).mono ?_
  rintro e w3 ⟨rfl, rfl⟩
  go_wp2_with fail
  refine (parses_any b _ (by unfold maxLen; omega)).mono ?_
  rintro e w3 ⟨rfl, hb⟩
  have B3 := Lib.hid (bl_next hb B2.out)
  clear hb
  go_wp2_with fail
  refine (HT.out _ (HBY.out.below B3.out)).mono ?_
  rintro e w4 ⟨rfl, rfl⟩
  go_wp2_with fail
  refine (parses_any (b ++ s) _ (by rw [ByteArray.size_append]; unfold maxLen; omega)).mono ?_
  rintro e w5 ⟨rfl, hb⟩
  have B4 := Lib.hid (bl_next hb B3.out)
  clear hb
  go_wp2_with fail
  go_ret
  exact ⟨rfl, B4.out⟩
set_option linter.unusedSimpArgs false in
set_option linter.unusedVariables false in
set_option maxRecDepth 100000 in
set_option maxHeartbeats 6400000 in
theorem SyntaxArguments_any (s : ByteArray) (n k : Int) (w : World) (n1 : -9223372036854775808 ≤ n) (n2 : n ≤ 9223372036854775807) (k1 : 0 ≤ k) (k2 : k ≤ 255) (_ : s.size ≤ 140737488355328) :
    Calls Tryd.prog 4 #[ .string s, .int .i64 n, .int .u8 k ] w fun e w' => e = .returned (.bool true) ∧ Below w.heap.size w w' := by
  obtain ⟨m, hm⟩ : ∃ m : Nat, k % 6 = m := ⟨(k % 6).toNat, by omega⟩
  obtain ⟨t, ht, hix⟩ := tab6 m (by omega)
  obtain ⟨r, hr⟩ : ∃ r, n % 40 = r := ⟨_, rfl⟩
  have r1 : 0 ≤ r := by omega
  have r2 : r < 40 := by omega
  obtain ⟨y1, hy1⟩ : ∃ y, argsK (wordK (bts s)) n = y := ⟨_, rfl⟩
  have S1 : ∀ w, Calls Tryd.prog 13 #[ .string s, .int .i64 n ] w fun e w' => e = .returned (.bool y1) ∧ Below w.heap.size w w' := fun w => by rw [← hy1]; exact sArguments_any s n w (by omega) (by omega)
  have R1 : ∀ w, Calls Tryd.prog 14 #[ .string s, .int .i64 n ] w fun e w' => e = .returned (.bool y1) ∧ w = w' := fun w => by rw [← hy1]; exact rArguments_any s n w (by omega) (by omega)
  have HS1 := Lib.hid S1
  have HR1 := Lib.hid R1
  clear S1 R1 hy1
  obtain ⟨y2, hy2⟩ : ∃ y, argsK (wordK (bts t)) n = y := ⟨_, rfl⟩
  have S2 : ∀ w, Calls Tryd.prog 13 #[ .string t, .int .i64 n ] w fun e w' => e = .returned (.bool y2) ∧ Below w.heap.size w w' := fun w => by rw [← hy2]; exact sArguments_any t n w (by omega) (by omega)
  have R2 : ∀ w, Calls Tryd.prog 14 #[ .string t, .int .i64 n ] w fun e w' => e = .returned (.bool y2) ∧ w = w' := fun w => by rw [← hy2]; exact rArguments_any t n w (by omega) (by omega)
  have HS2 := Lib.hid S2
  have HR2 := Lib.hid R2
  clear S2 R2 hy2
  obtain ⟨y3, hy3⟩ : ∃ y, argsK (wordK (bts t)) (r - 2) = y := ⟨_, rfl⟩
  have S3 : ∀ w, Calls Tryd.prog 13 #[ .string t, .int .i64 (r - 2) ] w fun e w' => e = .returned (.bool y3) ∧ Below w.heap.size w w' := fun w => by rw [← hy3]; exact sArguments_any t (r - 2) w (by omega) (by omega)
  have R3 : ∀ w, Calls Tryd.prog 14 #[ .string t, .int .i64 (r - 2) ] w fun e w' => e = .returned (.bool y3) ∧ w = w' := fun w => by rw [← hy3]; exact rArguments_any t (r - 2) w (by omega) (by omega)
  have HS3 := Lib.hid S3
  have HR3 := Lib.hid R3
  clear S3 R3 hy3
  cases y1 <;> cases y2 <;> cases y3
  all_goals
    go_enter Tryd.func4, Tryd.ntmps4
    go_wp2_with fail
    refine (Round_any n 40 _ (by decide) (by decide) n1 n2).mono ?_
    rintro e w1 ⟨rfl, rfl⟩
    rw [hr]
    go_wp2_with fail
    refine (awake7_any _).mono ?_
    rintro e w1 ⟨rfl, hb⟩
    have B1 := Lib.hid hb
    clear hb
    go_wp2_with fail
    refine (HS1.out _).mono ?_
    rintro e w2 ⟨rfl, hb⟩
    have B2 := Lib.hid (bl_next hb B1.out)
    clear hb
    go_wp2_with fail
    refine (HR1.out _).mono ?_
    rintro e w3 ⟨rfl, rfl⟩
    go_wp2_with fail
    refine (HS2.out _).mono ?_
    rintro e w3 ⟨rfl, hb⟩
    have B3 := Lib.hid (bl_next hb B2.out)
    clear hb
    go_wp2_with fail
    refine (HR2.out _).mono ?_
    rintro e w4 ⟨rfl, rfl⟩
    go_wp2_with fail
    refine (HS3.out _).mono ?_
    rintro e w4 ⟨rfl, hb⟩
    have B4 := Lib.hid (bl_next hb B3.out)
    clear hb
    go_wp2_with fail
    refine (HR3.out _).mono ?_
    rintro e w5 ⟨rfl, rfl⟩
    go_wp2_with fail
    go_ret
    exact ⟨rfl, B4.out⟩
set_option linter.unusedSimpArgs false in
set_option linter.unusedVariables false in
set_option maxRecDepth 100000 in
set_option maxHeartbeats 6400000 in
theorem SyntaxPrefix_any (a : Option Addr) (n cap : Nat) (a2 : Option Addr) (n2 cap2 : Nat) (w : World) (l : BytesAt w a n) (l2 : BytesAt w a2 n2) :
    Calls Tryd.prog 8 #[ .slice a n cap, .slice a2 n2 cap2 ] w fun e w' => e = .returned (.bool true) ∧ Below w.heap.size w w' := by
  obtain ⟨zs, hzl, hzs⟩ := bytes_is l
  obtain ⟨ms, hml, hms⟩ := bytes_is l2
  subst hzl hml
  have HBY := Lib.hid hzs
  have HBM := Lib.hid hms
  have htz := typT_size zs
  have htm := typT_size ms
  obtain ⟨h1, h2⟩ := parse_prefix (a := typT zs) (b := typT ms) (typK_ends _ _) (typK_clean _ _) (by omega)
  obtain ⟨tz, hz⟩ : ∃ b, typT zs = b := ⟨_, rfl⟩
  obtain ⟨tm, hm⟩ : ∃ b, typT ms = b := ⟨_, rfl⟩
  have KT := fun (w : World) (h : BytesIs w a zs) => typical7_any a cap zs w h
  have KM := fun (w : World) (h : BytesIs w a2 ms) => typical7_any a2 cap2 ms w h
  rw [hz] at KT htz h1 h2
  rw [hm] at KM htm h1 h2
  have HT := Lib.hid KT
  have HM := Lib.hid KM
  obtain ⟨E, hE⟩ : ∃ E, (parseS tz).err = E := ⟨_, rfl⟩
  obtain ⟨K, hK⟩ : ∃ K, (parseS tz).ln = K := ⟨_, rfl⟩
  obtain ⟨xs, hxs⟩ : ∃ xs, (parseS tz).sts = xs := ⟨_, rfl⟩
  obtain ⟨E2, hE2⟩ : ∃ E, (parseS (tz ++ tm)).err = E := ⟨_, rfl⟩
  obtain ⟨K2, hK2⟩ : ∃ K, (parseS (tz ++ tm)).ln = K := ⟨_, rfl⟩
  obtain ⟨ys, hys⟩ : ∃ xs, (parseS (tz ++ tm)).sts = xs := ⟨_, rfl⟩
  have P1 := fun w => sParse_any tz w (by unfold maxLen; omega)
  have P2 := fun w => sParse_any (tz ++ tm) w (by rw [ByteArray.size_append]; unfold maxLen; omega)
  unfold PaP at P1 P2
  rw [hE, hK, hxs] at P1
  rw [hE2, hK2, hys] at P2
  rw [hE, hE2, hK, hK2] at h1
  rw [hE, hE2, hxs, hys] at h2
  have HP1 := Lib.hid P1
  have HP2 := Lib.hid P2
  have H1 := Lib.hid h1
  have H2 := Lib.hid h2
  clear l l2 hzs hms KT KM hz hm P1 P2 h1 h2 hE hK hxs hE2 hK2 hys
  go_enter Tryd.func8, Tryd.ntmps8
  go_wp2_with fail
  refine (HT.out _ HBY.out).mono ?_
  rintro e w1 ⟨rfl, rfl⟩
  go_wp2_with fail
  refine (HP1.out _).mono ?_
  rintro e w1 ⟨v, rfl, r1, hb⟩
  have R1 := Lib.hid r1
  have B1 := Lib.hid hb
  clear hb r1
  have E1 := Lib.hid (ErrAt.new w1 E K)
  go_wp2_with fail
  refine (HT.out _ (HBY.out.below (bl_alloc B1.out _))).mono ?_
  rintro e w2 ⟨rfl, rfl⟩
  go_wp2_with fail
  refine (HM.out _ (HBM.out.below (bl_alloc B1.out _))).mono ?_
  rintro e w2 ⟨rfl, rfl⟩
  go_wp2_with fail
  refine (HP2.out _).mono ?_
  rintro e w2 ⟨v2, rfl, r2, hb⟩
  have q1 := hb.size
  simp at q1
  have R2 := Lib.hid r2
  have R1' := Lib.hid ((R1.out.below (bl_alloc (Below.refl _ _) _) (Nat.le_refl _)).below hb (Nat.le_refl _))
  have E1' := Lib.hid (E1.out.below hb (by simp))
  have B2 := Lib.hid (bl_next hb (bl_alloc B1.out _))
  clear hb r2 R1 B1 E1
  have e1 := E1'.out.alloc (.cells #[.int .i64 E2, .int .i64 K2] 49)
  have c0 := e1.c0
  by_cases hE0 : E = 0
  · subst hE0
    go_wp2_with fail
    refine (awake7_any _).mono ?_
    rintro e w3 ⟨rfl, hb⟩
    have B3 := Lib.hid (bl_next hb (bl_alloc B2.out _))
    have R13 := Lib.hid ((R1'.out.below (bl_alloc (Below.refl _ _) _) (Nat.le_refl _)).below hb (Nat.le_refl _))
    have R23 := Lib.hid ((R2.out.below (bl_alloc (Below.refl _ _) _) (Nat.le_refl _)).below hb (Nat.le_refl _))
    have e2 := (ErrAt.new w2 E2 K2).below hb (by simp)
    clear c0 e1
    have d0 := e2.c0
    clear e2 hb
    by_cases hF : E2 = 0
    · subst hF
      obtain ⟨more, hmore⟩ := H2.out (by trivial) (by trivial)
      subst hmore
      obtain ⟨A1, c1, rfl, hl1, _⟩ := R13.out
      obtain ⟨A2, c2, rfl, hl2, hk2⟩ := R23.out
      have HS := Lib.hid (show RdS w3 (.slice A2 xs.length c2) xs by have := RdS.take (m := xs.length) R23.out (by simp); rwa [List.take_left'] at this; rfl)
      obtain ⟨ny, hny⟩ : ∃ ny, (xs ++ more).length = ny := ⟨_, rfl⟩
      have hxy : xs.length ≤ ny := by rw [← hny, List.length_append]; omega
      rw [hny] at hl2 ⊢
      clear hk2
      go_wp2_with fail
      refine (sameS_any _ _ xs xs true _ HS.out R13.out (alike_refl _ _)).mono ?_
      rintro e w4 ⟨rfl, hb⟩
      have B4 := Lib.hid (bl_next hb B3.out)
      clear hb
      go_wp2_with fail
      go_ret
      exact ⟨rfl, B4.out⟩
    · go_wp2_with fail
      go_ret
      exact ⟨rfl, B3.out⟩
  · obtain ⟨q1, q2⟩ := H1.out hE0
    subst q1 q2
    go_wp2_with fail
    refine (awake7_any _).mono ?_
    rintro e w3 ⟨rfl, hb⟩
    have B3 := Lib.hid (bl_next hb (bl_alloc B2.out _))
    have f1 := (E1'.out.alloc (.cells #[.int .i64 E2, .int .i64 K2] 49)).below hb (by simp; omega)
    have f2 := (ErrAt.new w2 E2 K2).below hb (by simp)
    clear c0 e1 hb
    have c0 := f1.c0
    have c1 := f1.c1
    have d0 := f2.c0
    have d1 := f2.c1
    clear f1 f2
    go_wp2_with fail
    go_ret
    exact ⟨rfl, B3.out⟩
end Go.Proofs.YtnahlpeckfcciaaDoor
