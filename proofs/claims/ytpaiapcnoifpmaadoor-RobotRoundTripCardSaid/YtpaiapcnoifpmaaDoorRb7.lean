/- Proved: the reference's Chain and member at whatever robot return what chainR and membership compute. Conditions: as each theorem states. · Proved: the reference's member, Between and Rigid at whatever robot return what membership, betweenR and rigidR compute. Conditions: as each theorem states. -/
import Derived.Test.YtpaiapcnoifpmaaDoorRb5
import Derived.Test.YtpaiapcnoifpmaaDoorSy19
import Derived.Laws.AppendOwnNone
namespace Go.Proofs.YtpaiapcnoifpmaaDoor
open Go.RowKit

def linkOk (js : List JointD) (k : Int) : Bool := decide (-1 ≤ k ∧ k < js.length)
def chainR (js : List JointD) (ms : List MassD) (k : Int) : List Nat := if checkR js ms = 0 ∧ linkOk js k = true then chainK js k else []
def betweenR (js : List JointD) (ms : List MassD) (a b : Int) : List Nat := if checkR js ms = 0 ∧ linkOk js a = true ∧ linkOk js b = true then betweenK js a b else []
def rigidR (js : List JointD) (ms : List MassD) (a b : Int) : Bool := if checkR js ms = 0 ∧ linkOk js a = true ∧ linkOk js b = true then rigidK js a b else false
theorem rdI_nil (W : World) : RdI W (.slice none 0 0) [] := ⟨none, 0, rfl, by decide, fun k h => absurd h (Nat.not_lt_zero _)⟩
theorem ones_int (xs : List Nat) : ∀ u ∈ icells xs, u.oneCell' = true := by
  intro u hu
  obtain ⟨y, _, rfl⟩ := List.mem_map.1 hu
  rfl
set_option linter.unusedSimpArgs false in
set_option linter.unusedVariables false in
set_option maxRecDepth 100000 in
set_option maxHeartbeats 6400000 in
theorem rChain_all (js : List JointD) (ms : List MassD) (vj vm : Value) (k : Int) (w : World) (hr : RobD w vj vm js ms) (hk : I64 k) :
    Calls Tryd.prog 53 #[ .agg #[vj, vm], .int .i64 k ] w fun e w' => ∃ v, e = .returned v ∧ RdI w' v (chainR js ms k) ∧ Below w.heap.size w w' := by
  have HR := Lib.hid hr
  obtain ⟨Aj, cj, rfl, hcj, _⟩ := hr.rj.joint
  obtain ⟨Am, cm, rfl, hcm, _⟩ := hr.rm.mass
  have lj := hr.lj
  clear hr
  obtain ⟨res, hres⟩ : ∃ r, chainR js ms k = r := ⟨_, rfl⟩
  have HX := Lib.hid hres
  rw [hres]
  clear hres
  have hR0 := RobAt.box (V := w) (vj := .slice Aj js.length cj) (vm := .slice Am ms.length cm) rfl
  have B0 := Lib.hid ((Below.refl w.heap.size w).alloc (Nat.le_refl _) (.cells #[.slice Aj js.length cj, .slice Am ms.length cm] 25))
  have R0 := Lib.hid hR0
  clear hR0
  go_enter Tryd.func53, Tryd.ntmps53
  go_wp2_with fail
  refine (rCheckRobot_all js ms _ _ _ (HR.out.below B0.out (Nat.le_refl _))).mono ?_
  rintro e w1 ⟨rfl, hb⟩
  have RR := Lib.hid (RobAt.below R0.out hb (by simp))
  have B1 := Lib.hid (bl_next hb B0.out)
  have r0 := RR.out.c0
  have r1 := RR.out.c1
  have hq := RR.out.lt'
  clear hb
  obtain ⟨er, her⟩ : ∃ x, checkR js ms = x := ⟨_, rfl⟩
  have HE := Lib.hid her
  rw [her]
  clear her
  by_cases e0 : er = 0
  · subst e0
    clear R0 B0
    go_wp2_with fail
    refine (rIsLink_all Aj js.length cj _ k _ lj hk).mono ?_
    rintro e w2 ⟨rfl, hb⟩
    have R2 := Lib.hid (RobAt.below RR.out hb hq)
    have B2 := Lib.hid (bl_next hb B1.out)
    have hq2 := R2.out.lt'
    clear hb r0 r1 RR B1 hq
    cases hl : decide (-1 ≤ k ∧ k < js.length) with
    | false =>
      have hx := HX.out.symm.trans (by unfold chainR linkOk; rw [hl, if_neg (by simp)])
      subst hx
      clear hl
      go_wp2_with fail
      go_ret
      exact ⟨_, rfl, rdI_nil _, B2.out⟩
    | true =>
      have hl2 : -1 ≤ k ∧ k < js.length := of_decide_eq_true hl
      have hx := HX.out.symm.trans (by unfold chainR linkOk; rw [hl, if_pos ⟨HE.out, rfl⟩])
      obtain ⟨hn10, hz, _⟩ := check_zero HE.out
      have HT := Lib.hid (tree_of hz)
      have HXK := Lib.hid hx
      have CNT := Lib.hid (chain_count (tree_of hz) 10 k (by omega) hl2.2)
      obtain ⟨i0, hi, hz0, hz1, hz2⟩ := info_parts info_int7
      have HI := Lib.hid hi
      have HZ0 := Lib.hid hz0
      have HZ1 := Lib.hid hz1
      have HZ2 := Lib.hid hz2
      have n10 := hn10.2
      clear hi hz0 hz1 hz2 hl hx HX hz hn10
      go_wp2_with fail
      go_loopw [5, 6] (fun v i wr => ∃ (q : Int) (xs : List Nat), i = .int .i64 q ∧ -1 ≤ q ∧ q < js.length ∧ chainK js k = chainK js q ++ xs ∧ wr.ownsRow w2.heap.size 3 1 v xs.length (icells xs) ∧ Below w2.heap.size w2 wr) (fun _ i _ => (intOf i + 1).toNat)
      case atStart => exact ⟨k, [], rfl, hl2.1, hl2.2, by rw [List.append_nil], World.ownsRow_nil _ _ _ _, Below.refl _ _⟩
      case round =>
        obtain ⟨q, xs, rfl, q0, q1, hch, hown, hb⟩ := hrel
        have hxl : xs.length ≤ 10 := by
          have h := CNT.out
          rw [hch, List.length_append] at h
          omega
        have HCH := Lib.hid hch
        have HO := Lib.hid hown
        have HB := Lib.hid hb
        have hsz := hb.size
        clear hch
        by_cases hw : q = -1
        · subst hw
          obtain ⟨q5, k5, c5, rfl⟩ := own_slc hown
          have hrr : res = xs := by rw [HXK.out, HCH.out, chain_world]; rfl
          subst hrr
          have HRD := Lib.hid (own_rdI HO.out (by omega))
          have HBB := Lib.hid (bl_next hb B2.out)
          clear hown hb
          go_wp2_with fail
          go_ret
          exact ⟨_, rfl, HRD.out, HBB.out⟩
        · obtain ⟨i, rfl⟩ : ∃ i : Nat, q = i := ⟨q.toNat, by omega⟩
          have hil : i < js.length := by omega
          have hst := chain_step HT.out hil
          have hpr := HT.out i hil
          have hgd : js.getD i zeroJ = js[i] := by rw [List.getD_eq_getElem?_getD, List.getElem?_eq_getElem hil]; rfl
          rw [hgd] at hst hpr
          obtain ⟨p, hp⟩ : ∃ p, js[i].parent = p := ⟨_, rfl⟩
          rw [hp] at hst hpr
          have HP := Lib.hid hp
          have HST := Lib.hid (show chainK js k = chainK js p ++ (i :: xs) by rw [HCH.out, hst, List.append_assoc]; rfl)
          have OL := Lib.hid (own_lit wr w2.heap.size 3 #[.int .i64 (i : Int)] 1 1 rfl hsz (by decide))
          have HBA := Lib.hid (hb.alloc hsz (.cells #[.int .i64 (i : Int)] 3))
          clear hst hgd hp HCH
          rcases hown.2 with ⟨hv, hn⟩ | ⟨g, cap, cur, hv, hbg, hcur, h1, h2, h3, h4⟩
          · subst hv
            have hnil : xs = [] := List.eq_nil_of_length_eq_zero hn
            subst hnil
            have hR3 := R2.out.below hb hq2
            have hq3 := hR3.lt'
            have r0 := hR3.c0
            obtain ⟨_, _, ea, _, hat⟩ := (HR.out.rj.below (bl_next hb B2.out) (Nat.le_refl _)).joint
            injection ea with ea _ ec
            subst ea ec
            obtain ⟨g, o, rfl, hg, c0, c1, c2, _⟩ := hat i hil
            rw [HP.out] at c2
            clear hown hb hn hat c0 c1 hR3
            go_wp2_with (first | (at_builtin; refine wpList_append_own_none rfl (.tmp 26) (.tmp 27) 26 rfl w2.heap.size 3 i0 1 under_ints7 HI.out _ 1 _ rfl OL.out rfl ?_))
            go_roundw
            case rel => exact ⟨p, [i], rfl, by omega, by omega, HST.out, OL.out, HBA.out⟩
            case measure => simp [intOf]; omega
          · subst hv
            have HOA := Lib.hid (HO.out.alloc (.cells #[.int .i64 (i : Int)] 3))
            have OLT := Lib.hid OL.out.lt
            clear hown hb hbg hcur h1 h2 h3 h4
            go_wp2_with (first | (at_builtin; refine wpList_append_own _ rfl (.tmp 26) (.tmp 27) 26 rfl w2.heap.size 3 i0 (.int .i64 0) 1 8 under_ints7 HI.out HZ0.out HZ1.out HZ2.out rfl (by decide) _ 1 _ rfl OL.out ⟨g, 0, none⟩ xs.length cap (icells xs) rfl (by simp [icells]) (HOA.out.cells rfl) (ones_int xs) (by unfold maxLen; omega) (by omega) (by simp; omega) ?_))
            intro v' w1 hown' hgrow _
            have hBN : Below w2.heap.size w2 w1 := HBA.out.grown hgrow (by simp; omega) (fun j hj => (OLT.out j hj).1)
            have hPU : w1.ownsRow w2.heap.size 3 1 v' (i :: xs).length (icells (i :: xs)) := by
              rw [show (i :: xs).length = 1 + xs.length by simp; omega]
              exact hown'
            obtain ⟨q5, k5, c5, rfl⟩ := own_slc hPU
            have HPU := Lib.hid hPU
            have HBN := Lib.hid hBN
            have hR3 := R2.out.below hBN hq2
            have hq3 := hR3.lt'
            have r0 := hR3.c0
            obtain ⟨_, _, ea, _, hat⟩ := (HR.out.rj.below (bl_next hBN B2.out) (Nat.le_refl _)).joint
            injection ea with ea _ ec
            subst ea ec
            obtain ⟨gj, oj, rfl, hg, c0, c1, c2, _⟩ := hat i hil
            rw [HP.out] at c2
            clear hPU hBN hown' hgrow hat c0 c1 hR3
            go_wp2_with fail
            go_roundw
            case rel => exact ⟨p, i :: xs, rfl, by omega, by omega, HST.out, HPU.out, HBN.out⟩
            case measure => simp [intOf]; omega
  · have hx := HX.out.symm.trans (by unfold chainR; rw [HE.out, if_neg (by simp [e0])])
    subst hx
    go_wp2_with fail
    go_ret
    exact ⟨_, rfl, rdI_nil _, B1.out⟩
end Go.Proofs.YtpaiapcnoifpmaaDoor
namespace Go.Proofs.YtpaiapcnoifpmaaDoor
open Go.RowKit

def betN (js : List JointD) (a b : Int) (k : Nat) : List Nat := (List.range k).filter fun i => decide (i ∈ chainK js a) != decide (i ∈ chainK js b)
theorem betN_succ (js : List JointD) (a b : Int) (k : Nat) : betN js a b (k + 1) = betN js a b k ++ (if (decide (k ∈ chainK js a) != decide (k ∈ chainK js b)) = true then [k] else []) := by
  unfold betN
  rw [List.range_succ, List.filter_append]
  congr 1
  cases h : (decide (k ∈ chainK js a) != decide (k ∈ chainK js b)) with
  | true => rw [List.filter_cons_of_pos (by exact h)]; rfl
  | false => rw [List.filter_cons_of_neg (by rw [h]; decide)]; rfl
theorem betN_len (js : List JointD) (a b : Int) (k : Nat) : (betN js a b k).length ≤ k := by
  unfold betN
  exact Nat.le_trans (List.length_filter_le _ _) (by rw [List.length_range]; exact Nat.le_refl _)
set_option linter.unusedSimpArgs false in
set_option linter.unusedVariables false in
set_option maxRecDepth 100000 in
set_option maxHeartbeats 6400000 in
theorem rMember_all (u : Value) (xs : List Nat) (x : Nat) (w : World) (hu : RdI w u xs) (hx : x ≤ 8796093022208) :
    Calls Tryd.prog 82 #[ u, .int .i64 (x : Int) ] w fun e w' => e = .returned (.bool (decide (x ∈ xs))) ∧ w = w' := by
  obtain ⟨A, c, rfl, hl, hk⟩ := hu
  have HK := Lib.hid hk
  clear hk
  obtain ⟨r, hr⟩ : ∃ r, decide (x ∈ xs) = r := ⟨_, rfl⟩
  have HR := Lib.hid hr
  rw [hr]
  clear hr
  go_enter Tryd.func82, Tryd.ntmps82
  go_wp2_with fail
  go_loop [5] (fun i => ∃ k : Nat, k ≤ xs.length ∧ i = .int .i64 k ∧ ∀ t (h : t < k) (h2 : t < xs.length), xs[t] ≠ x) (fun i => xs.length - (intOf i).toNat)
  case atStart => exact ⟨0, Nat.zero_le _, rfl, fun t h => by omega⟩
  case round =>
    obtain ⟨k, hk, rfl, hne⟩ := hrel
    have HNE := Lib.hid hne
    clear hne
    by_cases hlt : k < xs.length
    · obtain ⟨g, o, rfl, hg, a0⟩ := HK.out k hlt
      obtain ⟨y, hy⟩ : ∃ y, xs[k] = y := ⟨_, rfl⟩
      rw [hy] at a0
      have HY := Lib.hid hy
      clear hy
      by_cases he : y = x
      · have hrt : r = true := by rw [← HR.out]; exact decide_eq_true (by rw [← he, ← HY.out]; exact List.getElem_mem hlt)
        subst hrt
        have hq : ((y : Int) == (x : Int)) = true := by rw [he]; exact beq_self_eq_true _
        clear he
        go_wp2_with fail
        go_ret
        exact ⟨rfl, rfl⟩
      · have hq : ((y : Int) == (x : Int)) = false := by rw [beq_eq_false_iff_ne]; omega
        have HE := Lib.hid he
        clear he
        go_wp2_with fail
        go_round
        case rel => exact ⟨k + 1, by omega, by go_num, fun t h h2 => by rcases Nat.lt_or_ge t k with h3 | h3; exact HNE.out t h3 h2; have e : t = k := (by omega); subst e; rw [HY.out]; exact HE.out⟩
        case measure => simp [intOf]; omega
    · have hrf : r = false := by
        rw [← HR.out]
        refine decide_eq_false ?_
        intro hn
        obtain ⟨t, ht, rfl⟩ := List.getElem_of_mem hn
        exact HNE.out t (by omega) ht rfl
      subst hrf
      go_wp2_with fail
      go_ret
      exact ⟨rfl, rfl⟩
set_option linter.unusedSimpArgs false in
set_option linter.unusedVariables false in
set_option maxRecDepth 100000 in
set_option maxHeartbeats 6400000 in
theorem rBetween_all (js : List JointD) (ms : List MassD) (vj vm : Value) (a b : Int) (w : World) (hr : RobD w vj vm js ms) (ha : I64 a) (hb : I64 b) :
    Calls Tryd.prog 54 #[ .agg #[vj, vm], .int .i64 a, .int .i64 b ] w fun e w' => ∃ v, e = .returned v ∧ RdI w' v (betweenR js ms a b) ∧ Below w.heap.size w w' := by
  have HR := Lib.hid hr
  obtain ⟨Aj, cj, rfl, hcj, _⟩ := hr.rj.joint
  obtain ⟨Am, cm, rfl, hcm, _⟩ := hr.rm.mass
  have lj := hr.lj
  clear hr
  obtain ⟨res, hres⟩ : ∃ r, betweenR js ms a b = r := ⟨_, rfl⟩
  have HX := Lib.hid hres
  rw [hres]
  clear hres
  have hR0 := RobAt.box (V := w) (vj := .slice Aj js.length cj) (vm := .slice Am ms.length cm) rfl
  have B0 := Lib.hid ((Below.refl w.heap.size w).alloc (Nat.le_refl _) (.cells #[.slice Aj js.length cj, .slice Am ms.length cm] 25))
  have R0 := Lib.hid hR0
  clear hR0
  go_enter Tryd.func54, Tryd.ntmps54
  go_wp2_with fail
  refine (rCheckRobot_all js ms _ _ _ (HR.out.below B0.out (Nat.le_refl _))).mono ?_
  rintro e w1 ⟨rfl, hb1⟩
  have RR := Lib.hid (RobAt.below R0.out hb1 (by simp))
  have B1 := Lib.hid (bl_next hb1 B0.out)
  have r0 := RR.out.c0
  have r1 := RR.out.c1
  have hq := RR.out.lt'
  clear hb1
  obtain ⟨er, her⟩ : ∃ x, checkR js ms = x := ⟨_, rfl⟩
  have HE := Lib.hid her
  rw [her]
  clear her
  by_cases e0 : er = 0
  · subst e0
    clear R0 B0
    go_wp2_with fail
    refine (rIsLink_all Aj js.length cj _ a _ lj ha).mono ?_
    rintro e w2 ⟨rfl, hb2⟩
    have R2 := Lib.hid (RobAt.below RR.out hb2 hq)
    have B2 := Lib.hid (bl_next hb2 B1.out)
    have hq2 := R2.out.lt'
    clear hb2 r0 r1 RR B1 hq
    have r0 := R2.out.c0
    have r1 := R2.out.c1
    cases hl : decide (-1 ≤ a ∧ a < js.length) with
    | false =>
      have hx := HX.out.symm.trans (by unfold betweenR linkOk; rw [hl, if_neg (by simp)])
      subst hx
      clear hl
      go_wp2_with fail
      go_ret
      exact ⟨_, rfl, rdI_nil _, B2.out⟩
    | true =>
      have hla : -1 ≤ a ∧ a < js.length := of_decide_eq_true hl
      have HLA := Lib.hid hl
      clear hl
      go_wp2_with fail
      refine (rIsLink_all Aj js.length cj _ b _ lj hb).mono ?_
      rintro e V ⟨rfl, hb2⟩
      have RV := Lib.hid (RobAt.below R2.out hb2 hq2)
      have BV := Lib.hid (bl_next hb2 B2.out)
      have hqV := RV.out.lt'
      clear hb2 r0 r1 R2 B2 hq2
      have r0 := RV.out.c0
      have r1 := RV.out.c1
      cases hl : decide (-1 ≤ b ∧ b < js.length) with
      | false =>
        have hx := HX.out.symm.trans (by unfold betweenR linkOk; rw [HLA.out, hl, if_neg (by simp)])
        subst hx
        clear hl
        go_wp2_with fail
        go_ret
        exact ⟨_, rfl, rdI_nil _, BV.out⟩
      | true =>
        have hlb : -1 ≤ b ∧ b < js.length := of_decide_eq_true hl
        have HLB := Lib.hid hl
        have hx := HX.out.symm.trans (by unfold betweenR linkOk; rw [HLA.out, hl, if_pos ⟨HE.out, rfl, rfl⟩])
        obtain ⟨hn10, hz, _⟩ := check_zero HE.out
        have HT := Lib.hid (tree_of hz)
        have HXK := Lib.hid hx
        have n10 := hn10.2
        have HDV := Lib.hid (HR.out.below BV.out (Nat.le_refl _))
        clear hl hx HX hz hn10
        have rr0 : ∀ w' : World, Below V.heap.size V w' → w'.cell? ⟨w.heap.size, 0, none⟩ = some (.slice Aj js.length cj) := fun w' hb => (hb.cell (p := ⟨w.heap.size, 0, none⟩) hqV).trans RV.out.c0
        have rr1 : ∀ w' : World, Below V.heap.size V w' → w'.cell? ⟨w.heap.size, 1, none⟩ = some (.slice Am ms.length cm) := fun w' hb => (hb.cell (p := ⟨w.heap.size, 1, none⟩) hqV).trans RV.out.c1
        clear r0 r1
        go_wp2_with fail
        refine wp_region_noPanic ?_
        refine wp_region_held_drew (S := (fun w3 => Below V.heap.size V w3)) (by kernel_rfl) ?_ (fun hHeld => ?_)
        focus (repeat (first | assumption | exact Below.refl _ _ | refine Below.drew ?_ | refine bl_next hb6 ?_ | refine bl_next hb5 ?_))
        refine wpAnyH_take (i := 0) (v := ?_) rfl (by kernel_rfl) (by kernel_rfl) (by kernel_rfl) (fun _ _ _ h => h) (Or.inl ⟨by rfl, ?_⟩) (by assumption) ?_; rotate_left; (focus (intro w hSw; (try dsimp only at hSw); go_simp; try with_reducible rfl)); (try simp only [Act.put, List.getElem_toArray, List.getElem_cons_succ, List.getElem_cons_zero, List.setIfInBounds_toArray, List.set_cons_zero, List.set_cons_succ])
        refine wpAnyH_take (i := 1) (v := ?_) rfl (by kernel_rfl) (by kernel_rfl) (by kernel_rfl) (fun _ _ _ h => h) (Or.inl ⟨by rfl, ?_⟩) (by assumption) ?_; rotate_left; (focus (intro w hSw; (try dsimp only at hSw); go_simp; try with_reducible rfl)); (try simp only [Act.put, List.getElem_toArray, List.getElem_cons_succ, List.getElem_cons_zero, List.setIfInBounds_toArray, List.set_cons_zero, List.set_cons_succ])
        refine wpAnyH_take (i := 3) (v := ?_) rfl (by kernel_rfl) (by kernel_rfl) (by kernel_rfl) (fun _ _ _ h => h) (Or.inl ⟨by rfl, ?_⟩) (by assumption) ?_; rotate_left; (focus (intro w hSw; (try dsimp only at hSw); go_simp; try with_reducible rfl)); (try simp only [Act.put, List.getElem_toArray, List.getElem_cons_succ, List.getElem_cons_zero, List.setIfInBounds_toArray, List.set_cons_zero, List.set_cons_succ])
        refine wpAnyH_take (i := 4) (v := ?_) rfl (by kernel_rfl) (by kernel_rfl) (by kernel_rfl) (fun _ _ _ h => h) (Or.inl ⟨by rfl, ?_⟩) (by assumption) ?_; rotate_left; (focus (intro w hSw; (try dsimp only at hSw); go_simp; try with_reducible rfl)); (try simp only [Act.put, List.getElem_toArray, List.getElem_cons_succ, List.getElem_cons_zero, List.setIfInBounds_toArray, List.set_cons_zero, List.set_cons_succ])
        refine wpAnyH_ready (rs := [2]) (by kernel_rfl) (by simp) (AllReadyH.cons rfl (fun K hK => ?_) (AllReadyH.nil))
        go_simp; (refine (rChain_all js ms _ _ a _ (HDV.out.below (by assumption) (Nat.le_refl _)) ha).mono ?_; rintro e w5 ⟨v5, rfl, hx5, hb5⟩); go_wp2_with fail; refine hK.out _ _ ?_ (fun hHeld => ?_); (focus (repeat (first | assumption | exact Below.refl _ _ | refine Below.drew ?_ | refine bl_next hb6 ?_ | refine bl_next hb5 ?_))); clear hK K; (try simp only [Act.put, List.getElem_toArray, List.getElem_cons_succ, List.getElem_cons_zero, List.setIfInBounds_toArray, List.set_cons_zero, List.set_cons_succ])
        refine wpAnyH_ready (rs := [5]) (by kernel_rfl) (by simp) (AllReadyH.cons rfl (fun K hK => ?_) (AllReadyH.nil))
        go_simp; (refine (rChain_all js ms _ _ b _ (HDV.out.below (by assumption) (Nat.le_refl _)) hb).mono ?_; rintro e w6 ⟨v6, rfl, hx6, hb6⟩); go_wp2_with fail; refine hK.out _ _ ?_ (fun hHeld => ?_); (focus (repeat (first | assumption | exact Below.refl _ _ | refine Below.drew ?_ | refine bl_next hb6 ?_ | refine bl_next hb5 ?_))); clear hK K; (try simp only [Act.put, List.getElem_toArray, List.getElem_cons_succ, List.getElem_cons_zero, List.setIfInBounds_toArray, List.set_cons_zero, List.set_cons_succ])
        refine wpAnyH_take (i := 6) (v := ?_) rfl (by kernel_rfl) (by kernel_rfl) (by kernel_rfl) (fun _ _ _ h => h) (Or.inl ⟨by rfl, ?_⟩) (by assumption) ?_; rotate_left; (focus (intro w hSw; (try dsimp only at hSw); go_simp; try with_reducible rfl)); (try simp only [Act.put, List.getElem_toArray, List.getElem_cons_succ, List.getElem_cons_zero, List.setIfInBounds_toArray, List.set_cons_zero, List.set_cons_succ])
        refine wpAnyH_take (i := 7) (v := ?_) rfl (by kernel_rfl) (by kernel_rfl) (by kernel_rfl) (fun _ _ _ h => h) (Or.inl ⟨by rfl, ?_⟩) (by assumption) ?_; rotate_left; (focus (intro w hSw; (try dsimp only at hSw); go_simp; try with_reducible rfl)); (try simp only [Act.put, List.getElem_toArray, List.getElem_cons_succ, List.getElem_cons_zero, List.setIfInBounds_toArray, List.set_cons_zero, List.set_cons_succ])
        refine wpAnyH_done (by kernel_rfl) ?_ _
        refine NoPanic.normal ?_
        have hbV : Below V.heap.size V w6 := by assumption
        have CA := Lib.hid (show chainR js ms a = chainK js a by unfold chainR; rw [if_pos ⟨HE.out, HLA.out⟩])
        have CB := Lib.hid (show chainR js ms b = chainK js b by unfold chainR; rw [if_pos ⟨HE.out, HLB.out⟩])
        rw [CA.out] at hx5
        rw [CB.out] at hx6
        have HX5 := Lib.hid (hx5.below hb6 (Nat.le_refl _))
        have HX6 := Lib.hid hx6
        obtain ⟨qa, ca, rfl, _, _⟩ := hx5
        obtain ⟨qb, cb, rfl, _, _⟩ := hx6
        obtain ⟨i0, hi, hz0, hz1, hz2⟩ := info_parts info_int7
        have HI := Lib.hid hi
        have HZ0 := Lib.hid hz0
        have HZ1 := Lib.hid hz1
        have HZ2 := Lib.hid hz2
        have RW := Lib.hid (RobAt.below RV.out hbV hqV)
        have BW := Lib.hid (bl_next hbV BV.out)
        have hqW := RW.out.lt'
        obtain ⟨U, hU⟩ : ∃ U, w6 = U := ⟨_, rfl⟩
        rw [hU] at HX5 HX6 RW BW hqW ⊢
        clear hi hz0 hz1 hz2 hbV hb5 hb6 rr0 rr1 hU
        go_wp2_with fail
        go_loopw [9, 10] (fun v i wr => ∃ k : Nat, k ≤ js.length ∧ i = .int .i64 k ∧ wr.ownsRow U.heap.size 3 1 v (betN js a b k).length (icells (betN js a b k)) ∧ Below U.heap.size U wr) (fun _ i _ => js.length - (intOf i).toNat)
        case atStart => exact ⟨0, Nat.zero_le _, rfl, World.ownsRow_nil _ _ _ _, Below.refl _ _⟩
        case round =>
          obtain ⟨k, hkl, rfl, hown, hb⟩ := hrel
          obtain ⟨q5, k5, c5, rfl⟩ := own_slc hown
          have HO := Lib.hid hown
          have HB := Lib.hid hb
          have hR3 := RW.out.below hb hqW
          have r0 := hR3.c0
          have hq3 := hR3.lt'
          have hul := betN_len js a b k
          have HS := Lib.hid (betN_succ js a b k)
          have HXA := Lib.hid (HX5.out.below hb (Nat.le_refl _))
          have HXB := Lib.hid (HX6.out.below hb (Nat.le_refl _))
          have hsz := hb.size
          clear hown hb hR3
          by_cases hlt : k < js.length
          · go_wp2_with fail
            refine (rMember_all _ _ k _ HXA.out (by omega)).mono ?_
            rintro e w8 ⟨rfl, rfl⟩
            obtain ⟨ma, hma⟩ : ∃ x, decide (k ∈ chainK js a) = x := ⟨_, rfl⟩
            rw [hma] at HS ⊢
            clear hma
            go_wp2_with fail
            refine (rMember_all _ _ k _ HXB.out (by omega)).mono ?_
            rintro e w8 ⟨rfl, rfl⟩
            obtain ⟨mb, hmb⟩ : ∃ x, decide (k ∈ chainK js b) = x := ⟨_, rfl⟩
            rw [hmb] at HS ⊢
            clear hmb
            cases ma with
            | true =>
              cases mb with
              | true =>
                  rw [if_neg (by decide), List.append_nil] at HS
                  go_wp2_with fail
                  go_roundw
                  case rel => exact ⟨k + 1, by omega, by go_num, by rw [HS.out]; exact HO.out, HB.out⟩
                  case measure => simp [intOf]; omega
              | false =>
                  rw [if_pos (by decide)] at HS
                  have HOA := Lib.hid (HO.out.alloc (.cells #[.int .i64 (k : Int)] 3))
                  go_wp2_with (first | (at_builtin; refine wpList_append_own _ rfl (.tmp 46) (.tmp 48) 26 rfl U.heap.size 3 i0 (.int .i64 0) 1 8 under_ints7 HI.out HZ0.out HZ1.out HZ2.out rfl (by decide) _ (betN js a b k).length (icells (betN js a b k)) rfl HOA.out ⟨wr.heap.size, 0, none⟩ 1 1 [.int .i64 (k : Int)] rfl rfl (news_int wr _ _) (fun u hu => by simp at hu; subst hu; rfl) (by unfold maxLen; omega) (by omega) (by simp; omega) ?_))
                  intro v' w1 hown' hgrow _
                  have hPU : w1.ownsRow U.heap.size 3 1 v' (betN js a b (k + 1)).length (icells (betN js a b (k + 1))) := by
                    rw [HS.out, List.length_append]
                    unfold icells
                    rw [List.map_append]
                    exact hown'
                  have hBN : Below U.heap.size U w1 := (HB.out.alloc HB.out.size _).grown hgrow (by simp; omega) (fun j hj => by have := (HO.out.lt j hj).1; omega)
                  have HPU := Lib.hid hPU
                  have HBN := Lib.hid hBN
                  clear hPU hBN hown' hgrow HS
                  go_wp2_with fail
                  go_roundw
                  case rel => exact ⟨k + 1, by omega, by go_num, HPU.out, HBN.out⟩
                  case measure => simp [intOf]; omega
            | false =>
              cases mb with
              | true =>
                  rw [if_pos (by decide)] at HS
                  have HOA := Lib.hid (HO.out.alloc (.cells #[.int .i64 (k : Int)] 3))
                  go_wp2_with (first | (at_builtin; refine wpList_append_own _ rfl (.tmp 46) (.tmp 48) 26 rfl U.heap.size 3 i0 (.int .i64 0) 1 8 under_ints7 HI.out HZ0.out HZ1.out HZ2.out rfl (by decide) _ (betN js a b k).length (icells (betN js a b k)) rfl HOA.out ⟨wr.heap.size, 0, none⟩ 1 1 [.int .i64 (k : Int)] rfl rfl (news_int wr _ _) (fun u hu => by simp at hu; subst hu; rfl) (by unfold maxLen; omega) (by omega) (by simp; omega) ?_))
                  intro v' w1 hown' hgrow _
                  have hPU : w1.ownsRow U.heap.size 3 1 v' (betN js a b (k + 1)).length (icells (betN js a b (k + 1))) := by
                    rw [HS.out, List.length_append]
                    unfold icells
                    rw [List.map_append]
                    exact hown'
                  have hBN : Below U.heap.size U w1 := (HB.out.alloc HB.out.size _).grown hgrow (by simp; omega) (fun j hj => by have := (HO.out.lt j hj).1; omega)
                  have HPU := Lib.hid hPU
                  have HBN := Lib.hid hBN
                  clear hPU hBN hown' hgrow HS
                  go_wp2_with fail
                  go_roundw
                  case rel => exact ⟨k + 1, by omega, by go_num, HPU.out, HBN.out⟩
                  case measure => simp [intOf]; omega
              | false =>
                  rw [if_neg (by decide), List.append_nil] at HS
                  go_wp2_with fail
                  go_roundw
                  case rel => exact ⟨k + 1, by omega, by go_num, by rw [HS.out]; exact HO.out, HB.out⟩
                  case measure => simp [intOf]; omega
          · have hke : k = js.length := by omega
            subst hke
            have HRD := Lib.hid (own_rdI HO.out (by omega))
            have hrr : res = betN js a b js.length := HXK.out
            subst hrr
            have HBB := Lib.hid (bl_next HB.out BW.out)
            go_wp2_with fail
            go_ret
            exact ⟨_, rfl, HRD.out, HBB.out⟩
  · have hx := HX.out.symm.trans (by unfold betweenR; rw [HE.out, if_neg (by simp [e0])])
    subst hx
    go_wp2_with fail
    go_ret
    exact ⟨_, rfl, rdI_nil _, B1.out⟩
set_option linter.unusedSimpArgs false in
set_option linter.unusedVariables false in
set_option maxRecDepth 100000 in
set_option maxHeartbeats 6400000 in
theorem rRigid_all (js : List JointD) (ms : List MassD) (vj vm : Value) (a b : Int) (w : World) (hr : RobD w vj vm js ms) (ha : I64 a) (hb : I64 b) :
    Calls Tryd.prog 55 #[ .agg #[vj, vm], .int .i64 a, .int .i64 b ] w fun e w' => e = .returned (.bool (rigidR js ms a b)) ∧ Below w.heap.size w w' := by
  have HR := Lib.hid hr
  obtain ⟨Aj, cj, rfl, hcj, _⟩ := hr.rj.joint
  obtain ⟨Am, cm, rfl, hcm, _⟩ := hr.rm.mass
  have lj := hr.lj
  clear hr
  obtain ⟨res, hres⟩ : ∃ r, rigidR js ms a b = r := ⟨_, rfl⟩
  have HX := Lib.hid hres
  rw [hres]
  clear hres
  have hR0 := RobAt.box (V := w) (vj := .slice Aj js.length cj) (vm := .slice Am ms.length cm) rfl
  have B0 := Lib.hid ((Below.refl w.heap.size w).alloc (Nat.le_refl _) (.cells #[.slice Aj js.length cj, .slice Am ms.length cm] 25))
  have R0 := Lib.hid hR0
  clear hR0
  go_enter Tryd.func55, Tryd.ntmps55
  go_wp2_with fail
  refine (rCheckRobot_all js ms _ _ _ (HR.out.below B0.out (Nat.le_refl _))).mono ?_
  rintro e w1 ⟨rfl, hb1⟩
  have RR := Lib.hid (RobAt.below R0.out hb1 (by simp))
  have B1 := Lib.hid (bl_next hb1 B0.out)
  have r0 := RR.out.c0
  have r1 := RR.out.c1
  have hq := RR.out.lt'
  clear hb1
  obtain ⟨er, her⟩ : ∃ x, checkR js ms = x := ⟨_, rfl⟩
  have HE := Lib.hid her
  rw [her]
  clear her
  by_cases e0 : er = 0
  · subst e0
    clear R0 B0
    go_wp2_with fail
    refine (rIsLink_all Aj js.length cj _ a _ lj ha).mono ?_
    rintro e w2 ⟨rfl, hb2⟩
    have R2 := Lib.hid (RobAt.below RR.out hb2 hq)
    have B2 := Lib.hid (bl_next hb2 B1.out)
    have hq2 := R2.out.lt'
    clear hb2 r0 r1 RR B1 hq
    have r0 := R2.out.c0
    have r1 := R2.out.c1
    cases hl : decide (-1 ≤ a ∧ a < js.length) with
    | false =>
      have hx := HX.out.symm.trans (by unfold rigidR linkOk; rw [hl, if_neg (by simp)])
      subst hx
      clear hl
      go_wp2_with fail
      go_ret
      exact ⟨rfl, B2.out⟩
    | true =>
      have hla : -1 ≤ a ∧ a < js.length := of_decide_eq_true hl
      have HLA := Lib.hid hl
      clear hl
      go_wp2_with fail
      refine (rIsLink_all Aj js.length cj _ b _ lj hb).mono ?_
      rintro e V ⟨rfl, hb2⟩
      have RV := Lib.hid (RobAt.below R2.out hb2 hq2)
      have BV := Lib.hid (bl_next hb2 B2.out)
      have hqV := RV.out.lt'
      clear hb2 r0 r1 R2 B2 hq2
      have r0 := RV.out.c0
      have r1 := RV.out.c1
      cases hl : decide (-1 ≤ b ∧ b < js.length) with
      | false =>
        have hx := HX.out.symm.trans (by unfold rigidR linkOk; rw [HLA.out, hl, if_neg (by simp)])
        subst hx
        clear hl
        go_wp2_with fail
        go_ret
        exact ⟨rfl, BV.out⟩
      | true =>
        have hlb : -1 ≤ b ∧ b < js.length := of_decide_eq_true hl
        have HLB := Lib.hid hl
        have hx := HX.out.symm.trans (by unfold rigidR linkOk; rw [HLA.out, hl, if_pos ⟨HE.out, rfl, rfl⟩])
        obtain ⟨hn10, hz, _⟩ := check_zero HE.out
        have HT := Lib.hid (tree_of hz)
        have HXK := Lib.hid hx
        have n10 := hn10.2
        have HDV := Lib.hid (HR.out.below BV.out (Nat.le_refl _))
        clear hl hx HX hz hn10
        go_wp2_with fail
        refine (rBetween_all js ms _ _ a b _ HDV.out ha hb).mono ?_
        rintro e U ⟨v, rfl, hrd, hbU⟩
        rw [show betweenR js ms a b = betweenK js a b by unfold betweenR; rw [if_pos ⟨HE.out, HLA.out, HLB.out⟩]] at hrd
        have RW := Lib.hid (RobAt.below RV.out hbU hqV)
        have BW := Lib.hid (bl_next hbU BV.out)
        have HDU := Lib.hid (HDV.out.below hbU (Nat.le_refl _))
        have hqW := RW.out.lt'
        obtain ⟨bl, hbl⟩ : ∃ l, betweenK js a b = l := ⟨_, rfl⟩
        have HIN := Lib.hid (show ∀ t (h : t < bl.length), bl[t] < js.length from fun t h => (between_mem.1 (by rw [hbl]; exact List.getElem_mem h)).1)
        have HXB := Lib.hid (show res = bl.all (fun i => !decide ((js.getD i zeroJ).lo < (js.getD i zeroJ).hi)) by rw [HXK.out]; unfold rigidK; rw [hbl])
        rw [hbl] at hrd
        clear hbl r0 r1 hbU
        obtain ⟨ql, cl, rfl, hll, hat⟩ := hrd
        have HAT := Lib.hid hat
        have r0 := RW.out.c0
        obtain ⟨_, _, ea, _, haj⟩ := HDU.out.rj.joint
        injection ea with ea _ ec
        subst ea ec
        have HAJ := Lib.hid haj
        clear hat haj
        go_wp2_with fail
        go_loopw [8] (fun i wr => ∃ k : Nat, k ≤ bl.length ∧ i = .int .i64 k ∧ (∀ t (h : t < bl.length), t < k → ¬ (js.getD bl[t] zeroJ).lo < (js.getD bl[t] zeroJ).hi) ∧ Below U.heap.size U wr) (fun i _ => bl.length - (intOf i).toNat)
        case atStart => exact ⟨0, Nat.zero_le _, rfl, fun t _ h => absurd h (Nat.not_lt_zero _), Below.refl _ _⟩
        case round =>
          obtain ⟨k, hk, rfl, hz, hb3⟩ := hrel
          have HZ := Lib.hid hz
          have HB := Lib.hid hb3
          have hsz := hb3.size
          clear hz
          by_cases hlt : k < bl.length
          · obtain ⟨gl, ol, rfl, hgl, a0⟩ := HAT.out k hlt
            obtain ⟨y, hy⟩ : ∃ y, bl[k] = y := ⟨_, rfl⟩
            have hyl : y < js.length := by rw [← hy]; exact HIN.out k hlt
            rw [hy] at a0
            obtain ⟨g, o, rfl, hg, c0, c1, c2, c3, c4, c5, c6, c7, _⟩ := HAJ.out y hyl
            have hgd : js.getD y zeroJ = js[y] := by rw [List.getD_eq_getElem?_getD, List.getElem?_eq_getElem hyl]; rfl
            have hij := HDU.out.ij y hyl
            obtain ⟨j, hje⟩ : ∃ j, js[y] = j := ⟨_, rfl⟩
            rw [hje] at c6 c7 hij hgd
            have hlo : I64 j.lo := hij.lo
            have hhi : I64 j.hi := hij.hi
            unfold I64 at hlo hhi
            have f0 := (hb3.cell (p := ⟨gl, ol + k, none⟩) hgl).trans a0
            have f6 := (hb3.cell (p := ⟨g, o + y * 12 + 6, none⟩) hg).trans c6
            have f7 := (hb3.cell (p := ⟨g, o + y * 12 + 7, none⟩) hg).trans c7
            have fr := (hb3.cell (p := ⟨w.heap.size, 0, none⟩) hqW).trans r0
            have HY := Lib.hid hy
            have HG := Lib.hid hgd
            clear a0 c0 c1 c2 c3 c4 c5 c6 c7 r0 hb3 hij hje hgd hy
            by_cases hlh : j.lo < j.hi
            · have hrf : res = false := by
                rw [HXB.out, Bool.eq_false_iff]
                intro ha
                rw [List.all_eq_true] at ha
                have := ha bl[k] (List.getElem_mem hlt)
                rw [HY.out, HG.out] at this
                simp at this
                omega
              subst hrf
              go_wp2_with fail
              go_quiet (fail)
              go_wp2_with fail
              go_ret
              exact ⟨rfl, bl_drewN (bl_next HB.out BW.out)⟩
            · have HL := Lib.hid hlh
              go_wp2_with fail
              go_quiet (fail)
              go_wp2_with fail
              go_roundw
              case rel => exact ⟨k + 1, by omega, by go_num, fun t h ht => by rcases Nat.lt_or_ge t k with h3 | h3; (have := HZ.out t h h3; omega); have e : t = k := (by omega); subst e; rw [HY.out, HG.out]; have := HL.out; omega, bl_drewN HB.out⟩
              case measure => simp [intOf]; omega
          · have hrt : res = true := by
              rw [HXB.out, List.all_eq_true]
              intro x hx
              obtain ⟨t, ht, rfl⟩ := List.getElem_of_mem hx
              have := HZ.out t ht (by omega)
              simpa using this
            subst hrt
            have HBB := Lib.hid (bl_next HB.out BW.out)
            clear hb3
            go_wp2_with fail
            go_ret
            exact ⟨rfl, HBB.out⟩
  · have hx := HX.out.symm.trans (by unfold rigidR; rw [HE.out, if_neg (by simp [e0])])
    subst hx
    go_wp2_with fail
    go_ret
    exact ⟨rfl, B1.out⟩
end Go.Proofs.YtpaiapcnoifpmaaDoor
