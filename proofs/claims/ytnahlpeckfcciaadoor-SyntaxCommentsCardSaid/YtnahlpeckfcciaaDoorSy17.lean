/- Proved: the statement SyntaxComments returns true. Conditions: as each theorem states. -/
import Derived.Test.YtnahlpeckfcciaaDoorSy16
namespace Go.Proofs.YtnahlpeckfcciaaDoor
open Go.RowKit

def gapB : Nat → ByteArray
  | 0 => ⟨#[]⟩
  | 1 => ⟨#[35, 32, 106, 111, 105, 110, 116, 10]⟩
  | 2 => ⟨#[10, 10]⟩
  | _ => ⟨#[9, 32]⟩
theorem gapB_bts (c : Nat) : bts (gapB c) = gapL c ∧ (gapB c).size ≤ 8 := by
  match c with
  | 0 => exact ⟨rfl, by decide⟩
  | 1 => exact ⟨rfl, by decide⟩
  | 2 => exact ⟨rfl, by decide⟩
  | _ + 3 => exact ⟨rfl, (by decide : (⟨#[9, 32]⟩ : ByteArray).size ≤ 8)⟩
set_option maxRecDepth 100000 in
theorem tab_gap (c : Nat) (h : c < 4) : ∀ w, (Instr.index 57 (.agg #[.string ⟨#[]⟩, .string ⟨#[35, 32, 106, 111, 105, 110, 116, 10]⟩, .string ⟨#[10, 10]⟩, .string ⟨#[9, 32]⟩]) (.int .i64 (c : Int))).run Tryd.prog w = .ok (.string (gapB c)) w := by
  rcases (show c = 0 ∨ c = 1 ∨ c = 2 ∨ c = 3 by omega) with rfl | rfl | rfl | rfl
  all_goals exact fun w => by kernel_rfl
theorem textGaps_snoc (l : List St) (g : St) : ∀ cs : List Nat, textGaps (l ++ [g]) cs = textGaps l cs ++ (gapL (cs.getD l.length 0) ++ lineL g) := by
  induction l with
  | nil => intro cs; cases cs <;> simp [textGaps]
  | cons x l ih =>
    intro cs
    rw [List.cons_append, textGaps, ih, textGaps, List.append_assoc, List.append_assoc, List.append_assoc]
    congr 3
    cases cs <;> simp
theorem lineL_len (g : St) : (lineL g).length = lineLen g := by
  unfold lineL lineLen
  have e : (argsL g.args).length = argsLen g.args := by
    induction g.args with
    | nil => rfl
    | cons a xs ih => simp only [argsL, List.flatMap_cons, List.length_append, List.length_cons, argsLen, List.map_cons, List.sum_cons, bts_len] at ih ⊢; omega
  rw [List.length_append, List.length_append, e, bts_len]
  simp; omega
theorem gapL_len (c : Nat) : (gapL c).length ≤ 8 := by
  match c with
  | 0 => decide
  | 1 => decide
  | 2 => decide
  | _ + 3 => exact (by decide : ([9, 32] : List Nat).length ≤ 8)
theorem textGaps_len (l : List St) : ∀ cs : List Nat, (textGaps l cs).length ≤ fmtLen l + 8 * l.length := by
  induction l with
  | nil => intro cs; simp [textGaps]
  | cons g l ih =>
    intro cs
    have h1 := ih cs.tail
    have h2 := gapL_len (cs.headD 0)
    have h3 := lineL_len g
    simp only [textGaps, List.length_append, fmtLen, List.map_cons, List.sum_cons, List.length_cons] at h1 ⊢
    omega
theorem RdS.drewN {W : World} {v : Value} {l : List St} (h : RdS W v l) (n : Nat) : RdS (W.drewN n) v l := h
/-- One statement of a list. -/
theorem RdS.one {W : World} {g o n c c' k : Nat} {l : List St} (h : RdS W (.slice (some ⟨g, o, none⟩) n c) l) (hk : k < l.length) (hc : 1 ≤ c') : RdS W (.slice (some ⟨g, o + k * 3, none⟩) 1 c') [l[k]] := by
  obtain ⟨A, c2, hv, hl, hat⟩ := h
  injection hv with h1 h2 h3
  subst h1
  obtain ⟨g', o', va, hA, hg, h0, h1, h2, h3⟩ := hat k hk
  injection hA with hA
  injection hA with e1 e2 _
  subst e1 e2
  refine ⟨_, _, rfl, ⟨hc, by simp⟩, fun j hj => ?_⟩
  have : j = 0 := by simp at hj; omega
  subst this
  exact ⟨_, _, va, rfl, hg, by rw [Nat.zero_mul, Nat.add_zero]; exact h0, by rw [Nat.zero_mul, Nat.add_zero]; exact h1, by rw [Nat.zero_mul, Nat.add_zero]; exact h2, h3⟩
theorem fmt_one_line (g : St) : bts (fmtS [g]) = lineL g ∧ fmtLen [g] = lineLen g := by
  refine ⟨?_, by simp [fmtLen]⟩
  rw [fmtS_bts]
  simp [textGaps, gapL]
theorem rFmt_one (u : Value) (g : St) (w : World) (hu : RdS w u [g]) (hs : lineLen g ≤ 16384) :
    Calls Tryd.prog 18 #[ u ] w fun e w' => e = .returned (.string (fmtS [g])) ∧ ∃ q, w' = w.drewN q :=
  (rFmtS_any u [g] w hu (by have := (fmt_one_line g).2; omega)).mono fun e w' h => ⟨h.1, 0, by rw [← h.2]; rfl⟩
set_option linter.unusedSimpArgs false in
set_option linter.unusedVariables false in
set_option maxRecDepth 100000 in
set_option maxHeartbeats 6400000 in
theorem SyntaxComments_any (a2 : Option Addr) (n2 cap2 : Nat) (a : Option Addr) (n cap : Nat) (w : World) (l2 : ListAt w a2 n2) (l : BytesAt w a n) :
    Calls Tryd.prog 7 #[ .slice a2 n2 cap2, .slice a n cap ] w fun e w' => e = .returned (.bool true) ∧ Below w.heap.size w w' := by
  obtain ⟨zs, hzl, hzs⟩ := bytes_is l
  have hn := l.1
  have HZL := Lib.hid hzl
  have HBY := Lib.hid hzs
  have HL2 := Lib.hid l2
  clear l l2 hzs hzl
  go_enter Tryd.func7, Tryd.ntmps7
  go_wp2_with fail
  refine (scene_any a2 n2 cap2 _ HL2.out).mono ?_
  intro e w2 hsc
  obtain ⟨vj, vm, vs, vk, js, ms, ss, ks, rfl, hb, hsm⟩ := scene_made hsc
  have SM := Lib.hid hsm
  have B2 := Lib.hid hb
  clear hb hsm hsc
  go_wp2_with fail
  refine (rWriteScene_any js ms ss ks vj vm vs vk _ SM.out).mono ?_
  rintro e w3 ⟨v3, l3, rfl, r3, hs3, hb⟩
  have B3 := Lib.hid (bl_next hb B2.out)
  have S3 := Lib.hid hs3
  have hl15 := hs3.1
  have R3 := Lib.hid r3
  obtain ⟨A, c, rfl, ⟨hl1, hl2⟩, hk3⟩ := r3
  have HK := Lib.hid hk3
  clear hb hs3 hk3
  obtain ⟨cs, hcs⟩ : ∃ cs : List Nat, cs = zs.map (· % 4) := ⟨_, rfl⟩
  have HCS := Lib.hid hcs
  clear hcs
  go_wp2_with fail
  go_loopw [6, 7] (fun s i wr => ∃ (k : Nat) (b : ByteArray), k ≤ l3.length ∧ i = .int .i64 k ∧ s = .string b ∧ bts b = textGaps (l3.take k) cs ∧ ∃ q, wr = w3.drewN q) (fun _ i _ => l3.length - (intOf i).toNat)
  case atStart => exact ⟨0, _, by omega, rfl, rfl, rfl, 0, rfl⟩
  case round =>
    obtain ⟨k, b, hk, rfl, rfl, hbt, q, hq⟩ := hrel
    have HBT := Lib.hid hbt
    have HQ := Lib.hid hq
    have BR := Lib.hid (show Below w.heap.size w wr by rw [hq]; exact bl_drewN B3.out)
    have RR := Lib.hid (show RdS wr (.slice A l3.length c) l3 by rw [hq]; exact R3.out)
    have hbz : b.size ≤ 8200 := by
      have h1 := textGaps_len (l3.take k) cs
      have h2 := fmtLen_take l3 k
      have h3 := S3.out.2.1
      have h4 := bts_len b
      rw [hbt] at h4
      rw [List.length_take] at h1
      omega
    clear hbt hq
    by_cases hlt : k < l3.length
    · obtain ⟨g, o, va, rfl, hg, _⟩ := HK.out k hlt
      have hgr : g < wr.heap.size := by rw [HQ.out]; exact hg
      have hone := fun c' hc' => RdS.one (c' := c') RR.out hlt hc'
      have HONE := Lib.hid hone
      have hsn := textGaps_snoc (l3.take k) l3[k] cs
      rw [← List.take_succ_eq_append_getElem hlt, List.length_take, Nat.min_eq_left (by omega)] at hsn
      obtain ⟨x, hx⟩ : ∃ x, l3[k] = x := ⟨_, rfl⟩
      have hxl : lineLen x ≤ 8000 := by
        have h1 := fmtLen_step hlt
        have h2 := S3.out.2.1
        rw [hx] at h1
        omega
      rw [hx] at hsn HONE
      have hfz : (fmtS [x]).size = lineLen x := by rw [← bts_len, (fmt_one_line x).1, lineL_len]
      have HFB := Lib.hid (fmt_one_line x).1
      have KF := fun (u : Value) (w : World) (h : RdS w u [x]) => rFmt_one u x w h (by omega)
      obtain ⟨f, hf⟩ : ∃ f, fmtS [x] = f := ⟨_, rfl⟩
      rw [hf] at hfz HFB KF
      have HKF := Lib.hid KF
      have HSN := Lib.hid hsn
      clear hone hx KF hf hsn
      go_upto_if 23 with fail
      go_cut [8] from 24 to 29 (fun v8 wx => v8 = .int .i64 ((cs.getD k 0 : Nat) : Int) ∧ wx = wr)
      case first =>
        by_cases hkn : k < n
        · obtain ⟨lb, lo, rfl, hlb, hz, z1⟩ := HBY.out.2 k (by rw [HZL.out]; exact hkn)
          have hz2 : wr.cell? ⟨lb, lo + k, none⟩ = some (.int .u8 ((zs[k]'(by rw [HZL.out]; exact hkn) : Nat) : Int)) := (BR.out.cell (p := ⟨lb, lo + k, none⟩) hlb).trans hz
          have hlb2 : lb < wr.heap.size := by have := BR.out.size; omega
          have hcd : cs.getD k 0 = zs[k]'(by rw [HZL.out]; exact hkn) % 4 := by rw [HCS.out, List.getD_eq_getElem?_getD, List.getElem?_map, List.getElem?_eq_getElem (by rw [HZL.out]; exact hkn)]; rfl
          obtain ⟨z, hzz⟩ : ∃ z, zs[k]'(by rw [HZL.out]; exact hkn) = z := ⟨_, rfl⟩
          rw [hzz] at hz2 z1 hcd
          have HCD := Lib.hid hcd
          clear hz hcd hzz
          go_wp2_with fail
          go_meet
          exact ⟨by rw [HCD.out]; go_num, rfl⟩
        · have hcd : cs.getD k 0 = 0 := by rw [HCS.out, List.getD_eq_getElem?_getD, List.getElem?_eq_none (by rw [List.length_map, HZL.out]; omega)]; rfl
          have HCD := Lib.hid hcd
          clear hcd
          go_wp2_with fail
          go_meet
          exact ⟨by rw [HCD.out]; rfl, rfl⟩
      case rest =>
        obtain ⟨rfl, rfl⟩ := hcut
        obtain ⟨d, hd⟩ : ∃ d, cs.getD k 0 = d := ⟨_, rfl⟩
        have hd4 : d < 4 := by
          rw [← hd, HCS.out, List.getD_eq_getElem?_getD, List.getElem?_map]
          cases zs[k]? with
          | none => simp
          | some z => simp; omega
        have hix := tab_gap d hd4
        have hgb := gapB_bts d
        rw [hd] at HSN ⊢
        have HGB := Lib.hid hgb.1
        have hgz := hgb.2
        obtain ⟨gb, hgbe⟩ : ∃ gb, gapB d = gb := ⟨_, rfl⟩
        rw [hgbe] at hix HGB hgz
        clear hgb hgbe hd
        go_wp2_with fail
        go_quiet (first | (go_at_call 18; refine Calls.quiet_of (HKF.out _ _ (RdS.drewN (HONE.out _ (by omega)) _))))
        go_wp2_with fail
        go_roundw
        case rel => exact ⟨k + 1, _, by omega, by go_num, rfl, by rw [HSN.out, bts_append, bts_append, HBT.out, HGB.out, HFB.out], _, by rw [HQ.out, World.drewN_drewN]⟩
        case measure => simp [intOf]; omega
    · have hke : k = l3.length := by omega
      have hbt2 : bts (b ++ ⟨#[35]⟩) = textGaps l3 cs ++ [35] := by rw [bts_append, HBT.out, List.take_of_length_le (by omega)]; rfl
      have hsz : (b ++ ⟨#[35]⟩).size = b.size + 1 := by rw [ByteArray.size_append]; rfl
      have hpg := parse_gaps (l := l3) (cs := cs) (t := [35]) S3.out.2.2 hbt2 (.inr rfl) (by omega) (by omega)
      have P2 := fun w => sParse_any (b ++ ⟨#[35]⟩) w (by rw [hsz]; unfold maxLen; omega)
      unfold PaP at P2
      rw [hpg] at P2
      have hal := gaps_alike l3 cs
      obtain ⟨T, hT⟩ : ∃ T, b ++ ⟨#[35]⟩ = T := ⟨_, rfl⟩
      obtain ⟨L, hL⟩ : ∃ L, withGaps 1 l3 cs = L := ⟨_, rfl⟩
      rw [hT, hL] at P2
      rw [hL] at hal
      have HT := Lib.hid hT
      have HP2 := Lib.hid P2
      have HAL := Lib.hid hal
      simp only at HP2
      clear hbt2 hsz hpg P2 hal hT hL
      go_wp2_with fail
      rw [HT.out]
      refine (HP2.out _).mono ?_
      rintro e w4 ⟨v4, rfl, r4, hb⟩
      have R4 := Lib.hid (r4.below (bl_alloc (Below.refl _ _) (.cells #[.int .i64 0, .int .i64 0] 49)) (Nat.le_refl _))
      have R5 := Lib.hid ((RR.out.below hb (Nat.le_refl _)).below (bl_alloc (Below.refl _ _) (.cells #[.int .i64 0, .int .i64 0] 49)) (Nat.le_refl _))
      have B4 := Lib.hid (bl_alloc (bl_next hb BR.out) (.cells #[.int .i64 0, .int .i64 0] 49))
      have E4 := Lib.hid (ErrAt.new w4 0 0)
      clear hb r4
      go_wp2_with fail
      refine (awake7_any _).mono ?_
      rintro e w5 ⟨rfl, hb⟩
      have R6 := Lib.hid (R4.out.below hb (Nat.le_refl _))
      have R7 := Lib.hid (R5.out.below hb (Nat.le_refl _))
      have B5 := Lib.hid (bl_next hb B4.out)
      have e5 := E4.out.below hb (by simp)
      have c0 := e5.c0
      clear hb e5
      go_wp2_with fail
      refine (sameS_any _ _ _ _ false _ R6.out R7.out ⟨HAL.out.1.symm, fun k h h' => ⟨(HAL.out.2 k h' h).1.symm, (HAL.out.2 k h' h).2.1.symm, fun e => by cases e⟩⟩).mono ?_
      rintro e w6 ⟨rfl, hb⟩
      have B6 := Lib.hid (bl_next hb B5.out)
      clear hb c0
      go_wp2_with fail
      go_ret
      exact ⟨rfl, B6.out⟩
end Go.Proofs.YtnahlpeckfcciaaDoor
