/- Proved: the developers' areLinks, chain, Chain return what linkOk, checkR and chainR say. Conditions: the robot reads as lists; for chain, it has no error and the link is one of its own. · Proved: the developers' between, Between and Rigid return what betweenR and rigidR in Rb6 compute. Conditions: the robot reads as lists; for between, it has no error and the links are its own. -/
import Derived.Test.YtpaiapcnoifpmaaDoorRc2
import Derived.Test.YtpaiapcnoifpmaaDoorRb7
import Derived.Laws.CopyOwn
import Derived.Deep.OwnRows
namespace Go.Proofs.YtpaiapcnoifpmaaDoor
open Go.RowKit

set_option linter.unusedSimpArgs false in
set_option linter.unusedVariables false in
set_option maxRecDepth 100000 in
set_option maxHeartbeats 6400000 in
theorem sAreLinks_any (js : List JointD) (ms : List MassD) (vj vm : Value) (a b : Int) (r : Bool) (w : World) (hr : RobD w vj vm js ms) (ha : I64 a) (hb : I64 b) (hrr : (linkOk js a && (linkOk js b && decide (checkR js ms = 0))) = r) :
    Calls Tryd.prog 56 #[ .agg #[vj, vm], .int .i64 a, .int .i64 b ] w fun e w' => e = .returned (.bool r) ∧ Below w.heap.size w w' := by
  have HR := Lib.hid hr
  obtain ⟨Aj, cj, rfl, hcj, _⟩ := hr.rj.joint
  obtain ⟨Am, cm, rfl, hcm, _⟩ := hr.rm.mass
  have lj := hr.lj
  clear hr
  have HX := Lib.hid hrr
  clear hrr
  have hR0 := RobAt.box (V := w) (vj := .slice Aj js.length cj) (vm := .slice Am ms.length cm) rfl
  have hB0 := (Below.refl w.heap.size w).alloc (Nat.le_refl _) (.cells #[.slice Aj js.length cj, .slice Am ms.length cm] 25)
  have B0 := Lib.hid hB0
  have HRD := Lib.hid (HR.out.below hB0 (Nat.le_refl _))
  clear hR0 hB0
  go_enter Tryd.func56, Tryd.ntmps56
  go_wp2_with fail
  refine (sLink_any a js.length _ _ ha (by unfold I64; omega) rfl).mono ?_
  rintro e w1 ⟨rfl, rfl⟩
  cases h1 : decide (-1 ≤ a ∧ a < (js.length : Int)) with
  | false =>
    have hx := HX.out.symm.trans (show _ = false by unfold linkOk; rw [h1]; rfl)
    subst hx
    clear h1
    go_wp2_with fail
    go_ret
    exact ⟨rfl, B0.out⟩
  | true =>
    have HX2 : Hid ((linkOk js b && decide (checkR js ms = 0)) = r) := Lib.hid (by rw [← HX.out]; unfold linkOk; rw [h1]; rfl)
    clear HX h1
    go_wp2_with fail
    refine (sLink_any b js.length _ _ hb (by unfold I64; omega) rfl).mono ?_
    rintro e w1 ⟨rfl, rfl⟩
    cases h1 : decide (-1 ≤ b ∧ b < (js.length : Int)) with
    | false =>
      have hx := HX2.out.symm.trans (show _ = false by unfold linkOk; rw [h1]; rfl)
      subst hx
      clear h1
      go_wp2_with fail
      go_ret
      exact ⟨rfl, B0.out⟩
    | true =>
      have HX3 : Hid (decide (checkR js ms = 0) = r) := Lib.hid (by rw [← HX2.out]; unfold linkOk; rw [h1]; rfl)
      clear HX2 h1
      go_wp2_with fail
      refine (sCheck_any js ms _ _ _ HRD.out).mono ?_
      rintro e w2 ⟨rfl, hb2⟩
      have B2 := Lib.hid (bl_next hb2 B0.out)
      clear hb2
      obtain ⟨er, her⟩ : ∃ x, checkR js ms = x := ⟨_, rfl⟩
      have hx := HX3.out.symm
      rw [her] at hx ⊢
      clear her
      by_cases e0 : er = 0
      · have hxt : r = true := by rw [hx]; exact decide_eq_true e0
        subst hxt
        have hq : (er == 0) = true := by rw [e0]; rfl
        clear hx e0
        go_wp2_with fail
        go_ret
        exact ⟨rfl, B2.out⟩
      · have hxt : r = false := by rw [hx]; exact decide_eq_false e0
        subst hxt
        have hq : (er == 0) = false := by rw [beq_eq_false_iff_ne]; exact e0
        clear hx e0
        go_wp2_with fail
        go_ret
        exact ⟨rfl, B2.out⟩
/-- A list of numbers that reads so, in memory from block B on. -/
def RdIf (B : Nat) (W : World) (v : Value) (xs : List Nat) : Prop := ∃ (A : Option Addr) (c : Nat), v = .slice A xs.length c ∧ xs.length ≤ 8796093022208 ∧
  ∀ (k : Nat) (h : k < xs.length), ∃ g o, A = some ⟨g, o, none⟩ ∧ B ≤ g ∧ g < W.heap.size ∧ W.cell? ⟨g, o + k, none⟩ = some (.int .i64 (xs[k] : Nat))
theorem RdIf.rdI {B : Nat} {W : World} {v : Value} {xs : List Nat} (h : RdIf B W v xs) : RdI W v xs := by
  obtain ⟨A, c, hv, hl, hk⟩ := h
  exact ⟨A, c, hv, hl, fun k hkl => by obtain ⟨g, o, hA, _, hg, hc⟩ := hk k hkl; exact ⟨g, o, hA, hg, hc⟩⟩
theorem RdIf.below {B Q : Nat} {W V : World} {v : Value} {xs : List Nat} (h : RdIf B W v xs) (hb : Below Q W V) (hB : W.heap.size ≤ Q) : RdIf B V v xs := by
  obtain ⟨A, c, hv, hl, hk⟩ := h
  have hs := hb.size
  exact ⟨A, c, hv, hl, fun k hkl => by obtain ⟨g, o, hA, hBg, hg, hc⟩ := hk k hkl; exact ⟨g, o, hA, hBg, by omega, (hb.cell (p := ⟨g, o + k, none⟩) (by show g < Q; omega)).trans hc⟩⟩
theorem RdIf.mono {B B' : Nat} {W : World} {v : Value} {xs : List Nat} (h : RdIf B W v xs) (hB : B' ≤ B) : RdIf B' W v xs := by
  obtain ⟨A, c, hv, hl, hk⟩ := h
  exact ⟨A, c, hv, hl, fun k hkl => by obtain ⟨g, o, hA, hBg, hg, hc⟩ := hk k hkl; exact ⟨g, o, hA, by omega, hg, hc⟩⟩
theorem RdIf.far {B q i : Nat} {u : Value} {W : World} {v : Value} {xs : List Nat} (h : RdIf B W v xs) (hq : q < B) : RdIf B (W.setCell ⟨q, i, none⟩ u) v xs := by
  obtain ⟨A, c, hv, hl, hk⟩ := h
  exact ⟨A, c, hv, hl, fun k hkl => by
    obtain ⟨g, o, hA, hBg, hg, hc⟩ := hk k hkl
    exact ⟨g, o, hA, hBg, by simpa using hg, (World.cell?_of_block (w := W) (heap_setCell_other _ _ _ _ (show g ≠ q by omega))).trans hc⟩⟩
def rowF (f : Nat) (xs : List Nat) : Nat → Value := fun j => .int .i64 ((if j < f then 0 else xs.getD (j - f) 0 : Nat) : Int)
theorem rowF_step {f i : Nat} {xs : List Nat} (hf : 1 ≤ f) (j : Nat) : (if j = f - 1 then Value.int .i64 (i : Int) else rowF f xs j) = rowF (f - 1) (i :: xs) j := by
  unfold rowF
  by_cases h1 : j = f - 1
  · rw [if_pos h1, if_neg (by omega), h1, Nat.sub_self]; rfl
  · rw [if_neg h1]
    by_cases h2 : j < f
    · rw [if_pos h2, if_pos (by omega)]
    · rw [if_neg h2, if_neg (by omega), show j - (f - 1) = (j - f) + 1 by omega, List.getD_cons_succ]
theorem row_zero (W : World) : (W.alloc (.cells #[.int .i64 0, .int .i64 0, .int .i64 0, .int .i64 0, .int .i64 0, .int .i64 0, .int .i64 0, .int .i64 0, .int .i64 0, .int .i64 0] 129)).rowIs W.heap.size 129 10 (rowF 10 []) := by
  refine World.rowIs_alloc W #[.int .i64 0, .int .i64 0, .int .i64 0, .int .i64 0, .int .i64 0, .int .i64 0, .int .i64 0, .int .i64 0, .int .i64 0, .int .i64 0] _ _ (fun i hi => ?_)
  have hi2 : i < 10 := hi
  unfold rowF
  rw [if_pos hi2]
  rcases (show i = 0 ∨ i = 1 ∨ i = 2 ∨ i = 3 ∨ i = 4 ∨ i = 5 ∨ i = 6 ∨ i = 7 ∨ i = 8 ∨ i = 9 by omega) with rfl | rfl | rfl | rfl | rfl | rfl | rfl | rfl | rfl | rfl <;> rfl
set_option maxRecDepth 100000 in
theorem cut_row (f : Nat) (hf : f < 10) (B : Nat) : ∀ W, (Instr.sliceAt 129 (.pointer (some ⟨B, 0, none⟩)) (some (.int .i64 (f : Int))) none none).run Tryd.prog W = .ok (.slice (some ⟨B, f, none⟩) (10 - f) (10 - f)) W := by
  rcases (show f = 0 ∨ f = 1 ∨ f = 2 ∨ f = 3 ∨ f = 4 ∨ f = 5 ∨ f = 6 ∨ f = 7 ∨ f = 8 ∨ f = 9 by omega) with rfl | rfl | rfl | rfl | rfl | rfl | rfl | rfl | rfl | rfl
  all_goals exact fun W => by kernel_rfl
set_option linter.unusedSimpArgs false in
set_option linter.unusedVariables false in
set_option maxRecDepth 100000 in
set_option maxHeartbeats 6400000 in
theorem schain_any (js : List JointD) (ms : List MassD) (vj vm : Value) (k : Int) (w : World) (hr : RobD w vj vm js ms) (hc : checkR js ms = 0) (hk : linkOk js k = true) :
    Calls Tryd.prog 57 #[ .agg #[vj, vm], .int .i64 k ] w fun e w' => ∃ v, e = .returned v ∧ RdIf w.heap.size w' v (chainK js k) ∧ Below w.heap.size w w' := by
  have HR := Lib.hid hr
  obtain ⟨Aj, cj, rfl, hcj, _⟩ := hr.rj.joint
  obtain ⟨Am, cm, rfl, hcm, _⟩ := hr.rm.mass
  obtain ⟨hn10, hz, _⟩ := check_zero hc
  have HT := Lib.hid (tree_of hz)
  have hl2 : -1 ≤ k ∧ k < js.length := of_decide_eq_true hk
  have CNT := Lib.hid (chain_count (tree_of hz) 10 k (by omega) hl2.2)
  have n10 := hn10.2
  obtain ⟨res, hres⟩ : ∃ r, chainK js k = r := ⟨_, rfl⟩
  have HX := Lib.hid hres
  rw [hres]
  have hR0 := RobAt.box (V := w) (vj := .slice Aj js.length cj) (vm := .slice Am ms.length cm) rfl
  have hB0 := (Below.refl w.heap.size w).alloc (Nat.le_refl _) (.cells #[.slice Aj js.length cj, .slice Am ms.length cm] 25)
  obtain ⟨U0, hU0⟩ : ∃ U, U = w.alloc (.cells #[.slice Aj js.length cj, .slice Am ms.length cm] 25) := ⟨_, rfl⟩
  rw [← hU0] at hR0 hB0
  have hs0 : U0.heap.size = w.heap.size + 1 := by rw [hU0]; simp
  have hro := row_zero U0
  rw [hs0] at hro
  have RO := Lib.hid hro
  have RM := Lib.hid (show RobAt (U0.alloc _) w.heap.size _ _ from (Below.heap_alloc _ (.cells #[.int .i64 0, .int .i64 0, .int .i64 0, .int .i64 0, .int .i64 0, .int .i64 0, .int .i64 0, .int .i64 0, .int .i64 0, .int .i64 0] 129) _ hR0.lt').trans hR0)
  have BM := Lib.hid (hB0.alloc hB0.size (.cells #[.int .i64 0, .int .i64 0, .int .i64 0, .int .i64 0, .int .i64 0, .int .i64 0, .int .i64 0, .int .i64 0, .int .i64 0, .int .i64 0] 129))
  subst hU0
  clear hro hR0 hB0 hs0 hr hc hk hn10 hz hres
  obtain ⟨i0, hi, hz0, hz1, hz2⟩ := info_parts info_int7
  have HI := Lib.hid hi
  have HZ0 := Lib.hid hz0
  have HZ1 := Lib.hid hz1
  have HZ2 := Lib.hid hz2
  clear hi hz0 hz1 hz2
  go_enter Tryd.func57, Tryd.ntmps57
  go_wp2_with fail
  go_loopw [1, 6] (fun qv fv wr => ∃ (q : Int) (f : Nat) (xs : List Nat), qv = .int .i64 q ∧ fv = .int .i64 f ∧ -1 ≤ q ∧ q < js.length ∧ f + xs.length ≤ 10 ∧ 10 ≤ f + xs.length ∧ chainK js k = chainK js q ++ xs ∧ wr.rowIs (w.heap.size + 1) 129 10 (rowF f xs) ∧ RobAt wr w.heap.size (.slice Aj js.length cj) (.slice Am ms.length cm) ∧ Below w.heap.size w wr) (fun qv _ _ => (intOf qv + 1).toNat)
  case atStart => exact ⟨k, 10, [], rfl, rfl, hl2.1, hl2.2, by simp, by simp, by rw [List.append_nil], RO.out, RM.out, BM.out⟩
  case round =>
    obtain ⟨q, f, xs, rfl, rfl, q0, q1, f0, f1, hch, hrow, hR, hB⟩ := hrel
    have HCH := Lib.hid hch
    have HROW := Lib.hid hrow
    have hrl := hrow.lt
    clear hch RO RM BM
    by_cases hw : q = -1
    · subst hw
      have hrr : res = xs := by rw [← HX.out, HCH.out, chain_world]; rfl
      subst hrr
      have hn : (10 : Int) - (f : Int) = (res.length : Int) := by omega
      have HB := Lib.hid hB
      have hsz := hB.size
      clear hR hB
      go_wp2_with (first | (refine wpList_make_full _ rfl (.tmp 22) (.tmp 22) 26 rfl wr.heap.size 3 i0 (.int .i64 0) 1 under_ints7 HI.out HZ0.out HZ1.out .i64 .i64 (10 - (f : Int)) (10 - (f : Int)) res.length (by go_simp) (by go_simp) (by omega) (by omega) (by rw [HZ2.out]; omega) (by unfold maxLen; omega) (Nat.le_refl _) ?_))
      intro W hmade hgrow
      have hrow2 := HROW.out.of_block (hgrow.block _ (by omega) (by simp))
      have HBW := Lib.hid (HB.out.grown hgrow hsz (by simp))
      have hcur : ∃ cur : List Value, cur.length = res.length ∧ W.heap[wr.heap.size]? = some (.cells cur.toArray 3 (0, 0)) := by
        rcases hmade.2 with ⟨h, _⟩ | ⟨g, cap, cur, h, _, h2, _, _, h5, _⟩
        · cases h
        · injection h with h h3 h4
          injection h with h
          injection h with h _ _
          subst h
          exact ⟨cur.toList, by simp; omega, by simpa using h2⟩
      obtain ⟨cur, hcl, hcg⟩ := hcur
      have HCG := Lib.hid hcg
      have HR2 := Lib.hid hrow2
      have hWs := hgrow.size
      clear hmade hgrow hcg hrow2 hrow
      have hsi : (Tryd.prog.info? 3).map (·.size) = some 1 := by rw [HI.out]; simp [HZ1.out]
      by_cases hn0 : res.length = 0
      · have e0 : res = [] := List.eq_nil_of_length_eq_zero hn0
        have ef : f = 10 := by omega
        subst e0
        subst ef
        clear HCH HROW hrl hn f0 f1
        go_wp2_with (first | (with_reducible refine wpList_copy_nothing rfl (.tmp 24) (.tmp 26) 26 26 rfl 3 under_ints7 hsi _ _ _ _ _ _ rfl rfl rfl ?_))
        go_ret
        exact ⟨_, rfl, ⟨_, _, rfl, by simp, fun j hj => absurd hj (Nat.not_lt_zero _)⟩, HBW.out⟩
      · have hf9 : f < 10 := by omega
        have hrc : ∀ j v, (icells res)[j]? = some v → W.cell? ⟨w.heap.size + 1, f + j, none⟩ = some v := by
          intro j v hv
          obtain ⟨hj, hv⟩ := List.getElem?_eq_some_iff.1 hv
          have hjl : j < res.length := by simpa [icells] using hj
          have h := HR2.out.cell (i := f + j) (by omega)
          rw [h, ← hv]
          unfold rowF
          rw [if_neg (by omega), show f + j - f = j by omega]
          simp [icells, List.getD_eq_getElem?_getD, hjl]
        have HRC := Lib.hid hrc
        have hlc : (icells res).length = res.length := by simp [icells]
        have HLC := Lib.hid hlc
        have HCL := Lib.hid hcl
        have hcut := cut_row f hf9 (w.heap.size + 1)
        rw [show 10 - f = res.length by omega] at hcut
        clear HCH HROW hrl hrc hlc hcl
        go_wp2_with (first | (with_reducible refine wpList_copy_splice rfl (.tmp 24) (.tmp 26) 26 26 rfl 3 under_ints7 hsi _ _ _ _ _ _ rfl rfl wr.heap.size 0 cur 3 HCG.out (icells res) ?_ ?_ ?_ (ones_int res) wr.heap.size W (Below.refl _ _) (Nat.le_refl _) ?_))
        · exact HLC.out.trans (Nat.min_self _).symm
        · exact fun _ j v h => HRC.out j v h
        · rw [HLC.out, HCL.out]; omega
        · intro W2 hsp hb2
          have e : splice cur 0 (icells res) = icells res := by
            unfold splice
            rw [List.take_zero, List.nil_append, Nat.zero_add, HLC.out, ← HCL.out, List.drop_length, List.append_nil]
          rw [e] at hsp
          have HRD : Hid (RdIf w.heap.size W2 (.slice (some ⟨wr.heap.size, 0, none⟩) res.length res.length) res) := Lib.hid ⟨_, _, rfl, by omega, fun j hj => ⟨wr.heap.size, 0, rfl, hsz, lt_of_block hsp.out, by
            rw [Nat.zero_add, cell_of_row _ _ j _ _ _ hsp.out]
            simp [icells, hj]⟩⟩
          have HBB := Lib.hid (HBW.out.trans (hb2.mono hsz))
          clear hsp hb2 hcut
          go_wp2_with fail
          go_ret
          exact ⟨_, rfl, HRD.out, HBB.out⟩
    · obtain ⟨i, rfl⟩ : ∃ i : Nat, q = i := ⟨q.toNat, by omega⟩
      have hil : i < js.length := by omega
      have hst := chain_step HT.out hil
      have hpr := HT.out i hil
      have hgd : js.getD i zeroJ = js[i] := by rw [List.getD_eq_getElem?_getD, List.getElem?_eq_getElem hil]; rfl
      rw [hgd] at hst hpr
      obtain ⟨p, hp⟩ : ∃ p, js[i].parent = p := ⟨_, rfl⟩
      rw [hp] at hst hpr
      have hxl : xs.length + 1 ≤ 10 := by
        have h := CNT.out
        rw [HX.out, ← HX.out, HCH.out, hst, List.length_append, List.length_append] at h
        simp only [List.length_cons, List.length_nil] at h
        omega
      have hf1 : 1 ≤ f := by omega
      have HST := Lib.hid (show chainK js k = chainK js p ++ (i :: xs) by rw [HCH.out, hst, List.append_assoc]; rfl)
      obtain ⟨_, _, ea, _, hat⟩ := HR.out.rj.joint
      injection ea with ea _ ec
      subst ea ec
      obtain ⟨g, o, rfl, hg, c0, c1, c2, _⟩ := hat i hil
      rw [hp] at c2
      have r0 := hR.c0
      have w0 := hrow.cell (i := f - 1) (by omega)
      have w1 := hrow.frozen (f - 1)
      have hne : ((i : Int) == -1) = false := by rw [beq_eq_false_iff_ne]; omega
      have ROW2 := Lib.hid ((hrow.set (f - 1) (.int .i64 (i : Int))).congr (g := rowF (f - 1) (i :: xs)) (fun j _ => rowF_step hf1 j))
      have R2 := Lib.hid (show RobAt (wr.setCell ⟨w.heap.size + 1, f - 1, none⟩ (.int .i64 (i : Int))) w.heap.size _ _ from (heap_setCell_other _ _ _ _ (show w.heap.size ≠ w.heap.size + 1 by omega)).trans hR)
      have hB2 := Below.setCell hB (p := ⟨w.heap.size + 1, f - 1, none⟩) (by simp) (.int .i64 (i : Int))
      have B2 := Lib.hid hB2
      have c2' := (hB2.cell (p := ⟨g, o + i * 12 + 2, none⟩) hg).trans c2
      have r0' := R2.out.c0
      clear hst hgd hp HCH hat c0 c1 c2 hR hB hB2 hrow HROW r0
      go_wp2_with fail
      go_roundw
      case rel => exact ⟨p, f - 1, i :: xs, rfl, by rw [show ((f : Int) - 1) = ((f - 1 : Nat) : Int) by omega], by omega, by omega, by rw [List.length_cons]; omega, by rw [List.length_cons]; omega, HST.out, ROW2.out, R2.out, B2.out⟩
      case measure => simp [intOf]; omega
set_option linter.unusedSimpArgs false in
set_option linter.unusedVariables false in
set_option maxRecDepth 100000 in
set_option maxHeartbeats 6400000 in
theorem sChain_any (js : List JointD) (ms : List MassD) (vj vm : Value) (k : Int) (w : World) (hr : RobD w vj vm js ms) (hk : I64 k) :
    Calls Tryd.prog 22 #[ .agg #[vj, vm], .int .i64 k ] w fun e w' => ∃ v, e = .returned v ∧ RdI w' v (chainR js ms k) ∧ Below w.heap.size w w' := by
  have HR := Lib.hid hr
  obtain ⟨Aj, cj, rfl, hcj, _⟩ := hr.rj.joint
  obtain ⟨Am, cm, rfl, hcm, _⟩ := hr.rm.mass
  clear hr
  obtain ⟨res, hres⟩ : ∃ x, chainR js ms k = x := ⟨_, rfl⟩
  rw [hres]
  have HRES := Lib.hid hres
  clear hres
  have R0 := Lib.hid (RobAt.box (V := w) (vj := .slice Aj js.length cj) (vm := .slice Am ms.length cm) rfl)
  have hB0 := (Below.refl w.heap.size w).alloc (Nat.le_refl _) (.cells #[.slice Aj js.length cj, .slice Am ms.length cm] 25)
  have B0 := Lib.hid hB0
  have HRD := Lib.hid (HR.out.below hB0 (Nat.le_refl _))
  clear hB0
  obtain ⟨r, hrr⟩ : ∃ r, (linkOk js k && (linkOk js k && decide (checkR js ms = 0))) = r := ⟨_, rfl⟩
  have HX := Lib.hid hrr
  go_enter Tryd.func22, Tryd.ntmps22
  go_wp2_with fail
  refine (sAreLinks_any js ms _ _ k k r _ HRD.out hk hk hrr).mono ?_
  rintro e w1 ⟨rfl, hb⟩
  have R1 := Lib.hid (RobAt.below R0.out hb (by simp))
  have B1 := Lib.hid (bl_next hb B0.out)
  have H1 := Lib.hid (HRD.out.below hb (Nat.le_refl _))
  have r0 := R1.out.c0
  have r1 := R1.out.c1
  clear hb hrr
  cases r with
  | false =>
    have hx : chainR js ms k = [] := by
      unfold chainR
      rw [if_neg]
      rintro ⟨h1, h2⟩
      have h := HX.out
      rw [h2, h1] at h
      exact absurd h (by decide)
    have hx2 := HRES.out.symm.trans hx
    subst hx2
    clear hx
    go_wp2_with fail
    go_ret
    exact ⟨_, rfl, rdI_nil _, B1.out⟩
  | true =>
    have h := HX.out
    simp only [Bool.and_eq_true, decide_eq_true_eq] at h
    obtain ⟨h1, _, h2⟩ := h
    have CK := Lib.hid h2
    have LK := Lib.hid h1
    have hx : chainR js ms k = chainK js k := by unfold chainR; rw [if_pos ⟨h2, h1⟩]
    have hx2 := HRES.out.symm.trans hx
    subst hx2
    clear hx h1 h2
    go_wp2_with fail
    refine (schain_any js ms _ _ k _ H1.out CK.out LK.out).mono ?_
    rintro e w2 ⟨v, rfl, hrd0, hb⟩
    have hrd := hrd0.rdI
    have B2 := Lib.hid (bl_next hb B1.out)
    have HRD2 := Lib.hid hrd
    obtain ⟨q5, c5, rfl, _⟩ := hrd
    clear hb
    go_wp2_with fail
    go_ret
    exact ⟨_, rfl, HRD2.out, B2.out⟩
end Go.Proofs.YtpaiapcnoifpmaaDoor
namespace Go.Proofs.YtpaiapcnoifpmaaDoor
open Go.RowKit

theorem chain_nodup {js : List JointD} (ht : Tree js) : ∀ (n : Nat) (k : Int), k < n → k < js.length → (chainK js k).Nodup := by
  intro n
  induction n with
  | zero =>
    intro k h1 _
    unfold chainK
    cases hl : js.length with
    | zero => simp [chainF]
    | succ m => rw [chainF, if_pos (by omega)]; exact List.nodup_nil
  | succ n ih =>
    intro k h1 h2
    by_cases hk : k < n
    · exact ih k hk h2
    · obtain ⟨i, rfl⟩ : ∃ i : Nat, k = i := ⟨k.toNat, by omega⟩
      have hp := ht i (by omega)
      rw [chain_step ht (by omega), List.nodup_append]
      refine ⟨ih _ (by omega) (by omega), by simp, fun x hx y hy => ?_⟩
      have h := chain_range ht (n + 1) (js.getD i zeroJ).parent (by omega) (by omega) x hx
      simp at hy
      omega
theorem chain_lt {js : List JointD} (ht : Tree js) {k : Int} (hk : k < js.length) {x : Nat} (hx : x ∈ chainK js k) : x < js.length := by
  have := chain_range ht (js.length) k hk hk x hx
  omega
theorem betN_over {js : List JointD} (ht : Tree js) {a b : Int} (ha : a < js.length) (hb : b < js.length) : ∀ m, betN js a b (js.length + m) = betweenK js a b := by
  intro m
  induction m with
  | zero => rfl
  | succ m ih =>
    rw [← Nat.add_assoc, betN_succ, ih]
    have e1 : decide (js.length + m ∈ chainK js a) = false := decide_eq_false (fun h => by have := chain_lt ht ha h; omega)
    have e2 : decide (js.length + m ∈ chainK js b) = false := decide_eq_false (fun h => by have := chain_lt ht hb h; omega)
    rw [e1, e2, if_neg (by decide), List.append_nil]
/-- The marks behind k numbers of a first list, and m of a second one. -/
def onceF (xs ys : List Nat) : Nat → Value := fun j => .bool (decide (j ∈ xs) != decide (j ∈ ys))
theorem mem_succ {xs : List Nat} {k : Nat} (hk : k < xs.length) (j : Nat) : decide (j ∈ xs.take (k + 1)) = (decide (j ∈ xs.take k) || decide (j = xs[k])) := by
  rw [← Bool.decide_or, decide_eq_decide, List.take_succ_eq_append_getElem hk, List.mem_append, List.mem_singleton]
theorem once_set {xs : List Nat} {k : Nat} (hk : k < xs.length) (j : Nat) : (if j = xs[k] then Value.bool true else onceF (xs.take k) [] j) = onceF (xs.take (k + 1)) [] j := by
  unfold onceF
  rw [mem_succ hk]
  by_cases h : j = xs[k]
  · rw [if_pos h, decide_eq_true h, Bool.or_true]; rfl
  · rw [if_neg h, decide_eq_false h, Bool.or_false]
theorem once_not {xs ys : List Nat} {k : Nat} (hk : k < ys.length) (hn : ys.Nodup) (j : Nat) : (if j = ys[k] then Value.bool (!(decide (ys[k] ∈ xs) != decide (ys[k] ∈ ys.take k))) else onceF xs (ys.take k) j) = onceF xs (ys.take (k + 1)) j := by
  unfold onceF
  have hnk : ys[k] ∉ ys.take k := by
    intro h
    rw [List.mem_take_iff_getElem] at h
    obtain ⟨t, ht, he⟩ := h
    exact List.pairwise_iff_getElem.1 hn t k (by omega) hk (by omega) he
  rw [mem_succ hk]
  by_cases h : j = ys[k]
  · rw [if_pos h, decide_eq_true h, Bool.or_true]
    subst h
    rw [decide_eq_false hnk]
    cases decide (ys[k] ∈ xs) <;> rfl
  · rw [if_neg h, decide_eq_false h, Bool.or_false]
theorem row_false (W : World) : (W.alloc (.cells #[.bool false, .bool false, .bool false, .bool false, .bool false, .bool false, .bool false, .bool false, .bool false, .bool false] 130)).rowIs W.heap.size 130 10 (onceF [] []) := by
  refine World.rowIs_alloc W #[.bool false, .bool false, .bool false, .bool false, .bool false, .bool false, .bool false, .bool false, .bool false, .bool false] _ _ (fun i hi => ?_)
  have hi2 : i < 10 := hi
  rcases (show i = 0 ∨ i = 1 ∨ i = 2 ∨ i = 3 ∨ i = 4 ∨ i = 5 ∨ i = 6 ∨ i = 7 ∨ i = 8 ∨ i = 9 by omega) with rfl | rfl | rfl | rfl | rfl | rfl | rfl | rfl | rfl | rfl <;> rfl
set_option maxRecDepth 100000 in
theorem idx_bool (b : Nat → Bool) (k : Nat) (hk : k < 10) : ∀ w, (Instr.index 130 (.agg #[.bool (b 0), .bool (b 1), .bool (b 2), .bool (b 3), .bool (b 4), .bool (b 5), .bool (b 6), .bool (b 7), .bool (b 8), .bool (b 9)]) (.int .i64 (k : Int))).run Tryd.prog w = .ok (.bool (b k)) w := by
  rcases (show k = 0 ∨ k = 1 ∨ k = 2 ∨ k = 3 ∨ k = 4 ∨ k = 5 ∨ k = 6 ∨ k = 7 ∨ k = 8 ∨ k = 9 by omega) with rfl | rfl | rfl | rfl | rfl | rfl | rfl | rfl | rfl | rfl
  all_goals exact fun w => by kernel_rfl
set_option linter.unusedSimpArgs false in
set_option linter.unusedVariables false in
set_option maxRecDepth 100000 in
set_option maxHeartbeats 6400000 in
theorem sbetween_any (js : List JointD) (ms : List MassD) (vj vm : Value) (a b : Int) (w : World) (hr : RobD w vj vm js ms) (hc : checkR js ms = 0) (ha : linkOk js a = true) (hb : linkOk js b = true) :
    Calls Tryd.prog 58 #[ .agg #[vj, vm], .int .i64 a, .int .i64 b ] w fun e w' => ∃ v, e = .returned v ∧ RdI w' v (betweenK js a b) ∧ Below w.heap.size w w' := by
  have HR := Lib.hid hr
  obtain ⟨Aj, cj, rfl, hcj, _⟩ := hr.rj.joint
  obtain ⟨Am, cm, rfl, hcm, _⟩ := hr.rm.mass
  obtain ⟨hn10, hz, _⟩ := check_zero hc
  have HT := Lib.hid (tree_of hz)
  have HC := Lib.hid hc
  have HLA := Lib.hid ha
  have HLB := Lib.hid hb
  have hla : -1 ≤ a ∧ a < js.length := of_decide_eq_true ha
  have hlb : -1 ≤ b ∧ b < js.length := of_decide_eq_true hb
  have n10 := hn10.2
  have HOV := Lib.hid (betN_over (tree_of hz) hla.2 hlb.2 (10 - js.length))
  rw [show js.length + (10 - js.length) = 10 by omega] at HOV
  obtain ⟨res, hres⟩ : ∃ r, betweenK js a b = r := ⟨_, rfl⟩
  have HX := Lib.hid hres
  rw [hres]
  have hR0 := RobAt.box (V := w) (vj := .slice Aj js.length cj) (vm := .slice Am ms.length cm) rfl
  have hB0 := (Below.refl w.heap.size w).alloc (Nat.le_refl _) (.cells #[.slice Aj js.length cj, .slice Am ms.length cm] 25)
  obtain ⟨U0, hU0⟩ : ∃ U, U = w.alloc (.cells #[.slice Aj js.length cj, .slice Am ms.length cm] 25) := ⟨_, rfl⟩
  rw [← hU0] at hR0 hB0
  have hs0 : U0.heap.size = w.heap.size + 1 := by rw [hU0]; simp
  have hro := row_false U0
  rw [hs0] at hro
  have hRM : RobAt (U0.alloc (.cells #[.bool false, .bool false, .bool false, .bool false, .bool false, .bool false, .bool false, .bool false, .bool false, .bool false] 130)) w.heap.size _ _ := (Below.heap_alloc _ _ _ hR0.lt').trans hR0
  have hBM := hB0.alloc hB0.size (.cells #[.bool false, .bool false, .bool false, .bool false, .bool false, .bool false, .bool false, .bool false, .bool false, .bool false] 130)
  have HRD := Lib.hid (HR.out.below hBM (Nat.le_refl _))
  have RO := Lib.hid hro
  have RM := Lib.hid hRM
  have BM := Lib.hid hBM
  subst hU0
  clear hro hR0 hB0 hs0 hr hc ha hb hn10 hz hres hRM hBM
  obtain ⟨i0, hi, hz0, hz1, hz2⟩ := info_parts info_int7
  have HI := Lib.hid hi
  have HZ0 := Lib.hid hz0
  have HZ1 := Lib.hid hz1
  have HZ2 := Lib.hid hz2
  clear hi hz0 hz1 hz2
  go_enter Tryd.func58, Tryd.ntmps58
  go_wp2_with fail
  refine (schain_any js ms _ _ a _ HRD.out HC.out HLA.out).mono ?_
  rintro e U ⟨v, rfl, hrd, hb1⟩
  have hsz : ((w.alloc (.cells #[.slice Aj js.length cj, .slice Am ms.length cm] 25)).alloc (.cells #[.bool false, .bool false, .bool false, .bool false, .bool false, .bool false, .bool false, .bool false, .bool false, .bool false] 130)).heap.size = w.heap.size + 2 := by simp
  rw [hsz] at hrd
  have ROU := Lib.hid (RO.out.of_block (hb1.block _ (by rw [hsz]; omega)))
  have RMU := Lib.hid (RobAt.below RM.out hb1 (by rw [hsz]; omega))
  have BU := Lib.hid (bl_next hb1 BM.out)
  have HDU := Lib.hid (HRD.out.below hb1 (Nat.le_refl _))
  have HXA := Lib.hid hrd
  clear hb1 RO RM BM hsz HRD
  obtain ⟨A, hA⟩ : ∃ A, chainK js a = A := ⟨_, rfl⟩
  rw [hA] at HXA hrd
  have HAA := Lib.hid hA
  have HAL : Hid (∀ t (h : t < A.length), A[t] < 10) := Lib.hid (fun t h => by have := chain_lt HT.out hla.2 (by rw [hA]; exact List.getElem_mem h); omega)
  have hAl : A.length ≤ 10 := by have := chain_count HT.out 10 a (by omega) hla.2; rw [hA] at this; exact this
  clear hA
  obtain ⟨qa, ca, rfl, _⟩ := hrd
  go_wp2_with fail
  go_loopw [19] (fun i wr => ∃ k : Nat, k ≤ A.length ∧ i = .int .i64 k ∧ wr.rowIs (w.heap.size + 1) 130 10 (onceF (A.take k) []) ∧ RdIf (w.heap.size + 2) wr (.slice qa A.length ca) A ∧ RobAt wr w.heap.size (.slice Aj js.length cj) (.slice Am ms.length cm) ∧ Below w.heap.size w wr) (fun i _ => A.length - (intOf i).toNat)
  case atStart => exact ⟨0, Nat.zero_le _, rfl, ROU.out, HXA.out, RMU.out, BU.out⟩
  case round =>
    obtain ⟨k, hk, rfl, hrow, hrx, hR, hB⟩ := hrel
    clear HDU ROU RMU BU HXA
    by_cases hlt : k < A.length
    · have HS := Lib.hid (once_set hlt)
      have hx10 := HAL.out k hlt
      obtain ⟨_, _, ea, _, hat⟩ := hrx
      injection ea with ea _ ec
      subst ea ec
      obtain ⟨g, o, rfl, _, hg, c0⟩ := hat k hlt
      have HRX : Hid (RdIf (w.heap.size + 2) wr (.slice (some ⟨g, o, none⟩) A.length ca) A) := Lib.hid ⟨_, _, rfl, by omega, hat⟩
      obtain ⟨x, hx⟩ : ∃ x, A[k] = x := ⟨_, rfl⟩
      rw [hx] at c0 HS hx10
      have w0 := hrow.cell hx10
      have w1 := hrow.frozen x
      simp only [onceF] at w0
      have ROW2 := Lib.hid ((hrow.set x (.bool true)).congr (fun j _ => HS.out j))
      have RX2 := Lib.hid (HRX.out.far (q := w.heap.size + 1) (i := x) (u := .bool true) (by omega))
      have R2 := Lib.hid (show RobAt (wr.setCell ⟨w.heap.size + 1, x, none⟩ (.bool true)) w.heap.size _ _ from (heap_setCell_other _ _ _ _ (show w.heap.size ≠ w.heap.size + 1 by omega)).trans hR)
      have B2 := Lib.hid (Below.setCell hB (p := ⟨w.heap.size + 1, x, none⟩) (by simp) (.bool true))
      clear hat hrow HS hR hB hx
      go_wp2_with fail
      go_roundw
      case rel => exact ⟨k + 1, by omega, by go_num, ROW2.out, RX2.out, R2.out, B2.out⟩
      case measure => simp [intOf]; omega
    · have hke : k = A.length := by omega
      subst hke
      rw [List.take_length] at hrow
      have ROW := Lib.hid hrow
      have RR := Lib.hid hR
      have BR := Lib.hid hB
      have HDR := Lib.hid (HR.out.below hB (Nat.le_refl _))
      have r0 := hR.c0
      have r1 := hR.c1
      have hq := hR.lt'
      have hrl := hrow.lt
      clear hrow hR hB hrx
      go_wp2_with fail
      refine (schain_any js ms _ _ b _ HDR.out HC.out HLB.out).mono ?_
      rintro e U2 ⟨v, rfl, hrd, hb1⟩
      have ROU := Lib.hid (ROW.out.of_block (hb1.block _ (by omega)))
      have RMU := Lib.hid (RobAt.below RR.out hb1 (by omega))
      have BU := Lib.hid (bl_next hb1 BR.out)
      have HXB := Lib.hid (hrd.mono (B' := w.heap.size + 2) (by omega))
      clear hb1 HDR ROW RR BR r0 r1
      obtain ⟨B, hBq⟩ : ∃ A, chainK js b = A := ⟨_, rfl⟩
      have hBn : B.Nodup := by rw [← hBq]; exact chain_nodup HT.out js.length b hlb.2 hlb.2
      rw [hBq] at HXB hrd
      have HBB := Lib.hid hBq
      have HBN := Lib.hid hBn
      have HBL : Hid (∀ t (h : t < B.length), B[t] < 10) := Lib.hid (fun t h => by have := chain_lt HT.out hlb.2 (by rw [hBq]; exact List.getElem_mem h); omega)
      have hBl : B.length ≤ 10 := by have := chain_count HT.out 10 b (by omega) hlb.2; rw [hBq] at this; exact this
      clear hBq hBn
      obtain ⟨qb, cb, rfl, _⟩ := hrd
      obtain ⟨wo, hwo⟩ : ∃ wo, wo = wr := ⟨_, rfl⟩
      subst hwo
      go_wp2_with fail
      go_loopw [30] (fun i wr => ∃ k : Nat, k ≤ B.length ∧ i = .int .i64 k ∧ wr.rowIs (w.heap.size + 1) 130 10 (onceF A (B.take k)) ∧ RdIf (w.heap.size + 2) wr (.slice qb B.length cb) B ∧ Below w.heap.size w wr) (fun i _ => B.length - (intOf i).toNat)
      case atStart => exact ⟨0, Nat.zero_le _, rfl, ROU.out, HXB.out, BU.out⟩
      case round =>
        obtain ⟨k, hk, rfl, hrow, hrx, hB⟩ := hrel
        clear ROU RMU BU HXB
        by_cases hlt : k < B.length
        · have HS := Lib.hid (once_not (xs := A) hlt HBN.out)
          have hx10 := HBL.out k hlt
          obtain ⟨_, _, ea, _, hat⟩ := hrx
          injection ea with ea _ ec
          subst ea ec
          obtain ⟨g, o, rfl, _, hg, c0⟩ := hat k hlt
          have HRX : Hid (RdIf (w.heap.size + 2) wr (.slice (some ⟨g, o, none⟩) B.length cb) B) := Lib.hid ⟨_, _, rfl, by omega, hat⟩
          obtain ⟨x, hx⟩ : ∃ x, B[k] = x := ⟨_, rfl⟩
          rw [hx] at c0 HS hx10
          have w0 := hrow.cell hx10
          have w1 := hrow.frozen x
          simp only [onceF] at w0
          obtain ⟨bx, hbx⟩ : ∃ y, (decide (x ∈ A) != decide (x ∈ B.take k)) = y := ⟨_, rfl⟩
          rw [hbx] at w0 HS
          have ROW2 := Lib.hid ((hrow.set x (.bool (!bx))).congr (fun j _ => HS.out j))
          have RX2 := Lib.hid (HRX.out.far (q := w.heap.size + 1) (i := x) (u := .bool (!bx)) (by omega))
          have B2 := Lib.hid (Below.setCell hB (p := ⟨w.heap.size + 1, x, none⟩) (by simp) (.bool (!bx)))
          clear hat hrow HS hB hx hbx
          go_wp2_with fail
          go_roundw
          case rel => exact ⟨k + 1, by omega, by go_num, ROW2.out, RX2.out, B2.out⟩
          case measure => simp [intOf]; omega
        · have hke : k = B.length := by omega
          subst hke
          rw [List.take_length] at hrow
          obtain ⟨y, hy⟩ : ∃ y : Nat → Bool, ∀ j, y j = (decide (j ∈ A) != decide (j ∈ B)) := ⟨_, fun _ => rfl⟩
          have hrow2 := hrow.congr (g := fun j => .bool (y j)) (fun j _ => by simp only [onceF, hy])
          have e0 := hrow2.cell (i := 0) (by decide)
          have e1 := hrow2.cell (i := 1) (by decide)
          have e2 := hrow2.cell (i := 2) (by decide)
          have e3 := hrow2.cell (i := 3) (by decide)
          have e4 := hrow2.cell (i := 4) (by decide)
          have e5 := hrow2.cell (i := 5) (by decide)
          have e6 := hrow2.cell (i := 6) (by decide)
          have e7 := hrow2.cell (i := 7) (by decide)
          have e8 := hrow2.cell (i := 8) (by decide)
          have e9 := hrow2.cell (i := 9) (by decide)
          have HY := Lib.hid hy
          have BR := Lib.hid hB
          clear hrow hrow2 hrx hy hB
          obtain ⟨U, hU⟩ : ∃ U, U = wr := ⟨_, rfl⟩
          subst hU
          go_wp2_with fail
          clear e0 e1 e2 e3 e4 e5 e6 e7 e8 e9
          go_loopw [12, 42] (fun v i wr => ∃ k : Nat, k ≤ 10 ∧ i = .int .i64 k ∧ wr.ownsRow U.heap.size 3 1 v (betN js a b k).length (icells (betN js a b k)) ∧ Below U.heap.size U wr) (fun _ i _ => 10 - (intOf i).toNat)
          case atStart => exact ⟨0, Nat.zero_le _, rfl, World.ownsRow_nil _ _ _ _, Below.refl _ _⟩
          case round =>
            obtain ⟨k, hkl, rfl, hown, hb⟩ := hrel
            obtain ⟨q5, k5, c5, rfl⟩ := own_slc hown
            have HO := Lib.hid hown
            have HB := Lib.hid hb
            have hul := betN_len js a b k
            have HS := Lib.hid (betN_succ js a b k)
            rw [HAA.out, HBB.out, ← HY.out] at HS
            have hsz := hb.size
            clear hown hb
            by_cases hlt : k < 10
            · have hix := idx_bool y k hlt
              cases hyk : y k with
              | false =>
                rw [hyk] at HS hix
                rw [if_neg (by decide), List.append_nil] at HS
                clear hyk
                go_wp2_with fail
                go_roundw
                case rel => exact ⟨k + 1, by omega, by go_num, by rw [HS.out]; exact HO.out, HB.out⟩
                case measure => simp [intOf]; omega
              | true =>
                rw [hyk] at HS hix
                rw [if_pos (by decide)] at HS
                have HOA := Lib.hid (HO.out.alloc (.cells #[.int .i64 (k : Int)] 3))
                clear hyk
                go_wp2_with (first | (at_builtin; refine wpList_append_own _ rfl (.tmp 47) (.tmp 49) 26 rfl U.heap.size 3 i0 (.int .i64 0) 1 8 under_ints7 HI.out HZ0.out HZ1.out HZ2.out rfl (by decide) _ (betN js a b k).length (icells (betN js a b k)) rfl HOA.out ⟨wr.heap.size, 0, none⟩ 1 1 [.int .i64 (k : Int)] rfl rfl (news_int wr _ _) (fun u hu => by simp at hu; subst hu; rfl) (by unfold maxLen; omega) (by omega) (by simp; omega) ?_))
                intro v' w1 hown' hgrow _
                have hPU : w1.ownsRow U.heap.size 3 1 v' (betN js a b (k + 1)).length (icells (betN js a b (k + 1))) := by
                  rw [HS.out, List.length_append]
                  unfold icells
                  rw [List.map_append]
                  exact hown'
                have hBN : Below U.heap.size U w1 := (HB.out.alloc HB.out.size _).grown hgrow (by simp; omega) (fun j hj => by have := (HO.out.lt j hj).1; omega)
                have HPU := Lib.hid hPU
                have HBN := Lib.hid hBN
                clear hPU hBN hown' hgrow HS
                go_wp2_with fail
                go_roundw
                case rel => exact ⟨k + 1, by omega, by go_num, HPU.out, HBN.out⟩
                case measure => simp [intOf]; omega
            · have hke : k = 10 := by omega
              subst hke
              have HRD := Lib.hid (own_rdI HO.out (by omega))
              have hrr : res = betN js a b 10 := by rw [← HX.out, HOV.out]
              subst hrr
              have HBB := Lib.hid (bl_next HB.out BR.out)
              go_wp2_with fail
              go_ret
              exact ⟨_, rfl, HRD.out, HBB.out⟩
set_option linter.unusedSimpArgs false in
set_option linter.unusedVariables false in
set_option maxRecDepth 100000 in
set_option maxHeartbeats 6400000 in
theorem sBetween_any (js : List JointD) (ms : List MassD) (vj vm : Value) (a b : Int) (w : World) (hr : RobD w vj vm js ms) (ha : I64 a) (hb : I64 b) :
    Calls Tryd.prog 23 #[ .agg #[vj, vm], .int .i64 a, .int .i64 b ] w fun e w' => ∃ v, e = .returned v ∧ RdI w' v (betweenR js ms a b) ∧ Below w.heap.size w w' := by
  have HR := Lib.hid hr
  obtain ⟨Aj, cj, rfl, hcj, _⟩ := hr.rj.joint
  obtain ⟨Am, cm, rfl, hcm, _⟩ := hr.rm.mass
  have lj := hr.lj
  clear hr
  obtain ⟨res, hres⟩ : ∃ x, betweenR js ms a b = x := ⟨_, rfl⟩
  rw [hres]
  have HRES := Lib.hid hres
  clear hres
  have R0 := Lib.hid (RobAt.box (V := w) (vj := .slice Aj js.length cj) (vm := .slice Am ms.length cm) rfl)
  have hB0 := (Below.refl w.heap.size w).alloc (Nat.le_refl _) (.cells #[.slice Aj js.length cj, .slice Am ms.length cm] 25)
  have B0 := Lib.hid hB0
  have HRD := Lib.hid (HR.out.below hB0 (Nat.le_refl _))
  clear hB0
  obtain ⟨r, hrr⟩ : ∃ r, (linkOk js a && (linkOk js b && decide (checkR js ms = 0))) = r := ⟨_, rfl⟩
  have HX := Lib.hid hrr
  go_enter Tryd.func23, Tryd.ntmps23
  go_wp2_with fail
  refine (sAreLinks_any js ms _ _ a b r _ HRD.out ha hb hrr).mono ?_
  rintro e w1 ⟨rfl, hb1⟩
  have R1 := Lib.hid (RobAt.below R0.out hb1 (by simp))
  have B1 := Lib.hid (bl_next hb1 B0.out)
  have H1 := Lib.hid (HRD.out.below hb1 (Nat.le_refl _))
  have r0 := R1.out.c0
  have r1 := R1.out.c1
  clear hb1 hrr
  have NOT : Hid (r = false → ¬ (checkR js ms = 0 ∧ linkOk js a = true ∧ linkOk js b = true)) := Lib.hid (fun h0 => by
    rintro ⟨h1, h2, h3⟩
    have h := HX.out
    rw [h2, h3, h1, h0] at h
    exact absurd h (by decide))
  have YES : Hid (r = true → checkR js ms = 0 ∧ linkOk js a = true ∧ linkOk js b = true) := Lib.hid (fun h0 => by
    have h := HX.out
    rw [h0] at h
    simp only [Bool.and_eq_true, decide_eq_true_eq] at h
    exact ⟨h.2.2, h.1, h.2.1⟩)
  cases r with
  | false =>
    have hx2 := HRES.out.symm.trans (by unfold betweenR; rw [if_neg (NOT.out rfl)])
    subst hx2
    go_wp2_with fail
    go_ret
    exact ⟨_, rfl, rdI_nil _, B1.out⟩
  | true =>
    have Y := Lib.hid (YES.out rfl)
    have hx2 := HRES.out.symm.trans (by unfold betweenR; rw [if_pos Y.out])
    subst hx2
    go_wp2_with fail
    refine (sbetween_any js ms _ _ a b _ H1.out Y.out.1 Y.out.2.1 Y.out.2.2).mono ?_
    rintro e w2 ⟨v, rfl, hrd, hb2⟩
    have B2 := Lib.hid (bl_next hb2 B1.out)
    have HRD2 := Lib.hid hrd
    obtain ⟨q5, c5, rfl, _⟩ := hrd
    clear hb2
    go_wp2_with fail
    go_ret
    exact ⟨_, rfl, HRD2.out, B2.out⟩
set_option linter.unusedSimpArgs false in
set_option linter.unusedVariables false in
set_option maxRecDepth 100000 in
set_option maxHeartbeats 6400000 in
theorem sRigid_any (js : List JointD) (ms : List MassD) (vj vm : Value) (a b : Int) (w : World) (hr : RobD w vj vm js ms) (ha : I64 a) (hb : I64 b) :
    Calls Tryd.prog 26 #[ .agg #[vj, vm], .int .i64 a, .int .i64 b ] w fun e w' => e = .returned (.bool (rigidR js ms a b)) ∧ Below w.heap.size w w' := by
  have HR := Lib.hid hr
  obtain ⟨Aj, cj, rfl, hcj, _⟩ := hr.rj.joint
  obtain ⟨Am, cm, rfl, hcm, _⟩ := hr.rm.mass
  have lj := hr.lj
  clear hr
  obtain ⟨res, hres⟩ : ∃ x, rigidR js ms a b = x := ⟨_, rfl⟩
  rw [hres]
  have HRES := Lib.hid hres
  clear hres
  have R0 := Lib.hid (RobAt.box (V := w) (vj := .slice Aj js.length cj) (vm := .slice Am ms.length cm) rfl)
  have hB0 := (Below.refl w.heap.size w).alloc (Nat.le_refl _) (.cells #[.slice Aj js.length cj, .slice Am ms.length cm] 25)
  have B0 := Lib.hid hB0
  have HRD := Lib.hid (HR.out.below hB0 (Nat.le_refl _))
  clear hB0
  obtain ⟨r, hrr⟩ : ∃ r, (linkOk js a && (linkOk js b && decide (checkR js ms = 0))) = r := ⟨_, rfl⟩
  have HX := Lib.hid hrr
  go_enter Tryd.func26, Tryd.ntmps26
  go_wp2_with fail
  refine (sAreLinks_any js ms _ _ a b r _ HRD.out ha hb hrr).mono ?_
  rintro e w1 ⟨rfl, hb1⟩
  have R1 := Lib.hid (RobAt.below R0.out hb1 (by simp))
  have B1 := Lib.hid (bl_next hb1 B0.out)
  have H1 := Lib.hid (HRD.out.below hb1 (Nat.le_refl _))
  have r0 := R1.out.c0
  have r1 := R1.out.c1
  clear hb1 hrr
  have NOT : Hid (r = false → ¬ (checkR js ms = 0 ∧ linkOk js a = true ∧ linkOk js b = true)) := Lib.hid (fun h0 => by
    rintro ⟨h1, h2, h3⟩
    have h := HX.out
    rw [h2, h3, h1, h0] at h
    exact absurd h (by decide))
  have YES : Hid (r = true → checkR js ms = 0 ∧ linkOk js a = true ∧ linkOk js b = true) := Lib.hid (fun h0 => by
    have h := HX.out
    rw [h0] at h
    simp only [Bool.and_eq_true, decide_eq_true_eq] at h
    exact ⟨h.2.2, h.1, h.2.1⟩)
  cases r with
  | false =>
    have hx2 := HRES.out.symm.trans (by unfold rigidR; rw [if_neg (NOT.out rfl)])
    subst hx2
    go_wp2_with fail
    go_ret
    exact ⟨rfl, B1.out⟩
  | true =>
    have Y := Lib.hid (YES.out rfl)
    have hx2 := HRES.out.symm.trans (by unfold rigidR; rw [if_pos Y.out])
    have HXK := Lib.hid hx2
    clear hx2
    have hqV := R1.out.lt'
    go_wp2_with fail
    refine (sbetween_any js ms _ _ a b _ H1.out Y.out.1 Y.out.2.1 Y.out.2.2).mono ?_
    rintro e U ⟨v, rfl, hrd, hbU⟩
    have RW := Lib.hid (RobAt.below R1.out hbU hqV)
    have BW := Lib.hid (bl_next hbU B1.out)
    have HDU := Lib.hid (H1.out.below hbU (Nat.le_refl _))
    have hqW := RW.out.lt'
    obtain ⟨bl, hbl⟩ : ∃ l, betweenK js a b = l := ⟨_, rfl⟩
    have HIN := Lib.hid (show ∀ t (h : t < bl.length), bl[t] < js.length from fun t h => (between_mem.1 (by rw [hbl]; exact List.getElem_mem h)).1)
    have HXB := Lib.hid (show res = bl.all (fun i => !decide ((js.getD i zeroJ).lo < (js.getD i zeroJ).hi)) by rw [HXK.out]; unfold rigidK; rw [hbl])
    have HZ0 := Lib.hid ((check_zero Y.out.1).2.1)
    rw [hbl] at hrd
    clear hbl r0 r1 hbU
    obtain ⟨ql, cl, rfl, hll, hat⟩ := hrd
    have HAT := Lib.hid hat
    have r0 := RW.out.c0
    obtain ⟨_, _, ea, _, haj⟩ := HDU.out.rj.joint
    injection ea with ea _ ec
    subst ea ec
    have HAJ := Lib.hid haj
    clear hat haj
    go_wp2_with fail
    go_loopw [19] (fun i wr => ∃ k : Nat, k ≤ bl.length ∧ i = .int .i64 k ∧ (∀ t (h : t < bl.length), t < k → ¬ (js.getD bl[t] zeroJ).lo < (js.getD bl[t] zeroJ).hi) ∧ Below U.heap.size U wr) (fun i _ => bl.length - (intOf i).toNat)
    case atStart => exact ⟨0, Nat.zero_le _, rfl, fun t _ h => absurd h (Nat.not_lt_zero _), Below.refl _ _⟩
    case round =>
      obtain ⟨k, hk, rfl, hz, hb3⟩ := hrel
      have HZ := Lib.hid hz
      have HB := Lib.hid hb3
      have hsz := hb3.size
      clear hz
      by_cases hlt : k < bl.length
      · obtain ⟨gl, ol, rfl, hgl, a0⟩ := HAT.out k hlt
        obtain ⟨y, hy⟩ : ∃ y, bl[k] = y := ⟨_, rfl⟩
        have hyl : y < js.length := by rw [← hy]; exact HIN.out k hlt
        rw [hy] at a0
        obtain ⟨g, o, rfl, hg, c0, c1, c2, c3, c4, c5, c6, c7, _⟩ := HAJ.out y hyl
        have hgd : js.getD y zeroJ = js[y] := by rw [List.getD_eq_getElem?_getD, List.getElem?_eq_getElem hyl]; rfl
        have hij := HDU.out.ij y hyl
        have hez := (err_zero (HZ0.out y hyl)).2.2.2.2.2.1.1
        obtain ⟨j, hje⟩ : ∃ j, js[y] = j := ⟨_, rfl⟩
        rw [hgd] at hez
        rw [hje] at c6 c7 hij hgd hez
        have hlo : I64 j.lo := hij.lo
        have hhi : I64 j.hi := hij.hi
        unfold I64 at hlo hhi
        have f0 := (hb3.cell (p := ⟨gl, ol + k, none⟩) hgl).trans a0
        have f6 := (hb3.cell (p := ⟨g, o + y * 12 + 6, none⟩) hg).trans c6
        have f7 := (hb3.cell (p := ⟨g, o + y * 12 + 7, none⟩) hg).trans c7
        have fr := (hb3.cell (p := ⟨w.heap.size, 0, none⟩) hqW).trans r0
        have HY := Lib.hid hy
        have HG := Lib.hid hgd
        clear a0 c0 c1 c2 c3 c4 c5 c6 c7 r0 hb3 hij hje hgd hy
        by_cases hlh : j.lo < j.hi
        · have hrf : res = false := by
            rw [HXB.out, Bool.eq_false_iff]
            intro ha
            rw [List.all_eq_true] at ha
            have := ha bl[k] (List.getElem_mem hlt)
            rw [HY.out, HG.out] at this
            simp at this
            omega
          subst hrf
          have hne : (j.lo == j.hi) = false := by rw [beq_eq_false_iff_ne]; omega
          go_wp2_with fail
          go_quiet (fail)
          go_wp2_with fail
          go_ret
          exact ⟨rfl, bl_drewN (bl_next HB.out BW.out)⟩
        · have HL := Lib.hid hlh
          have hne : (j.lo == j.hi) = true := by rw [beq_iff_eq]; omega
          go_wp2_with fail
          go_quiet (fail)
          go_wp2_with fail
          go_roundw
          case rel => exact ⟨k + 1, by omega, by go_num, fun t h ht => by rcases Nat.lt_or_ge t k with h3 | h3; (have := HZ.out t h h3; omega); have e : t = k := (by omega); subst e; rw [HY.out, HG.out]; have := HL.out; omega, bl_drewN HB.out⟩
          case measure => simp [intOf]; omega
      · have hrt : res = true := by
          rw [HXB.out, List.all_eq_true]
          intro x hx
          obtain ⟨t, ht, rfl⟩ := List.getElem_of_mem hx
          have := HZ.out t ht (by omega)
          simpa using this
        subst hrt
        have HBB := Lib.hid (bl_next HB.out BW.out)
        clear hb3
        go_wp2_with fail
        go_ret
        exact ⟨rfl, HBB.out⟩
end Go.Proofs.YtpaiapcnoifpmaaDoor
