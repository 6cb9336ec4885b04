/- Proved: the reference's CheckRobot accepts what the makers make. Conditions: as each theorem states. -/
import Derived.Test.YtnahlpeckfcciaaDoorSy9
import Derived.Test.YtnahlpeckfcciaaDoorTk5
namespace Go.Proofs.YtnahlpeckfcciaaDoor
open Go.RowKit

theorem name_good (i : Nat) (h : i < 3) : nameS (bts (nameJ i)) = true ∧ ArgT (nameJ i) := by
  rcases (show i = 0 ∨ i = 1 ∨ i = 2 by omega) with rfl | rfl | rfl
  all_goals unfold ArgT; decide
theorem name_apart (i k : Nat) (h : i < 3) (hk : k < i) : ((nameJ k).toList == (nameJ i).toList) = false := by
  rcases (show i = 1 ∧ k = 0 ∨ i = 2 ∧ k = 0 ∨ i = 2 ∧ k = 1 by omega) with ⟨rfl, rfl⟩ | ⟨rfl, rfl⟩ | ⟨rfl, rfl⟩
  all_goals (rw [bts_eq]; decide)
/-- The cells of joint k. -/
theorem RdC.joint {W : World} {v : Value} {js : List JointD} (h : RdC W v js.length 12 (jcells js)) : ∃ (A : Option Addr) (c : Nat), v = .slice A js.length c ∧ js.length ≤ c ∧
    ∀ (k : Nat) (hk : k < js.length), ∃ g, A = some ⟨g, 0, none⟩ ∧ g < W.heap.size ∧ W.cell? ⟨g, k * 12, none⟩ = some (.string js[k].name) ∧ W.cell? ⟨g, k * 12 + 1, none⟩ = some (.int .i64 js[k].kind) ∧ W.cell? ⟨g, k * 12 + 2, none⟩ = some (.int .i64 js[k].parent) ∧
      W.cell? ⟨g, k * 12 + 3, none⟩ = some (.int .i64 js[k].x) ∧ W.cell? ⟨g, k * 12 + 4, none⟩ = some (.int .i64 js[k].y) ∧ W.cell? ⟨g, k * 12 + 5, none⟩ = some (.int .i64 js[k].z) ∧ W.cell? ⟨g, k * 12 + 6, none⟩ = some (.int .i64 js[k].lo) ∧
      W.cell? ⟨g, k * 12 + 7, none⟩ = some (.int .i64 js[k].hi) ∧ W.cell? ⟨g, k * 12 + 8, none⟩ = some (.int .i64 js[k].weight) ∧ W.cell? ⟨g, k * 12 + 9, none⟩ = some (.int .i64 js[k].speed) ∧ W.cell? ⟨g, k * 12 + 10, none⟩ = some (.int .i64 js[k].accel) ∧
      W.cell? ⟨g, k * 12 + 11, none⟩ = some (.int .i64 js[k].torque) := by
  obtain ⟨A, c, hv, hc, hat⟩ := RdC.at h (fun j => by rfl) (by decide)
  refine ⟨A, c, hv, hc, fun k hk => ?_⟩
  obtain ⟨g, hA, hg, hi⟩ := hat k hk
  exact ⟨g, hA, hg, hi 0 (by decide), hi 1 (by decide), hi 2 (by decide), hi 3 (by decide), hi 4 (by decide), hi 5 (by decide), hi 6 (by decide), hi 7 (by decide), hi 8 (by decide), hi 9 (by decide), hi 10 (by decide), hi 11 (by decide)⟩
theorem JointAt.below {W V : World} {b B : Nat} {j : JointD} (h : JointAt W b j) (hb : Below B W V) (hB : b < B) : JointAt V b j := (hb.block b hB).trans h
theorem JointAt.drewN {W : World} {b : Nat} {j : JointD} (h : JointAt W b j) (n : Nat) : JointAt (W.drewN n) b j := h
theorem JointAt.all {W : World} {b : Nat} {j : JointD} (h : JointAt W b j) : W.cell? ⟨b, 0, none⟩ = some (.string j.name) ∧ W.cell? ⟨b, 1, none⟩ = some (.int .i64 j.kind) ∧ W.cell? ⟨b, 2, none⟩ = some (.int .i64 j.parent) ∧ W.cell? ⟨b, 3, none⟩ = some (.int .i64 j.x) ∧
    W.cell? ⟨b, 4, none⟩ = some (.int .i64 j.y) ∧ W.cell? ⟨b, 5, none⟩ = some (.int .i64 j.z) ∧ W.cell? ⟨b, 6, none⟩ = some (.int .i64 j.lo) ∧ W.cell? ⟨b, 7, none⟩ = some (.int .i64 j.hi) ∧ W.cell? ⟨b, 8, none⟩ = some (.int .i64 j.weight) ∧
    W.cell? ⟨b, 9, none⟩ = some (.int .i64 j.speed) ∧ W.cell? ⟨b, 10, none⟩ = some (.int .i64 j.accel) ∧ W.cell? ⟨b, 11, none⟩ = some (.int .i64 j.torque) :=
  ⟨h.cell 0, h.cell 1, h.cell 2, h.cell 3, h.cell 4, h.cell 5, h.cell 6, h.cell 7, h.cell 8, h.cell 9, h.cell 10, h.cell 11⟩
/-- What the checks ask of a joint's numbers. -/
structure FineJ (i : Nat) (j : JointD) : Prop where
  k0 : 0 ≤ j.kind
  k6 : j.kind ≤ 6
  p0 : -1 ≤ j.parent
  p1 : j.parent < i
  x : -4194304 ≤ j.x ∧ j.x ≤ 4194304
  y : -4194304 ≤ j.y ∧ j.y ≤ 4194304
  z : -4194304 ≤ j.z ∧ j.z ≤ 4194304
  lh : j.lo ≤ j.hi
  l0 : -(reachK j.kind) ≤ j.lo
  h1 : j.hi ≤ reachK j.kind
  we : (decide (1 ≤ j.weight) && decide (j.weight ≤ 1024)) = true
  sp : (decide (1 ≤ j.speed) && decide (j.speed ≤ 1048576)) = true
  ac : (decide (1 ≤ j.accel) && decide (j.accel ≤ 1048576)) = true
  tq : (decide (1 ≤ j.torque) && decide (j.torque ≤ 1099511627776)) = true
theorem reach_cases (k : Int) : k = 0 ∧ reachK k = 0 ∨ (1 ≤ k ∧ k ≤ 3) ∧ reachK k = 524288 ∨ (k < 0 ∨ 3 < k) ∧ reachK k = 4194304 := by
  unfold reachK
  split
  · exact .inl ⟨by assumption, rfl⟩
  · split
    · exact .inr (.inl ⟨by assumption, rfl⟩)
    · exact .inr (.inr ⟨by omega, rfl⟩)
theorem fine_made {i : Nat} {j : JointD} (h : MadeJ i j) : FineJ i j := by
  obtain ⟨_, h1, h2, h3, h4, h5, h6, h7, h8, h9, h10, h11, h12, h13, h14⟩ := h
  have hr := reach_cases j.kind
  exact ⟨h1, by omega, by omega, by omega, by omega, by omega, by omega, by omega, by omega, by omega, by simp; omega, by simp; omega, by simp; omega, by simp; omega⟩
set_option linter.unusedSimpArgs false in
set_option linter.unusedVariables false in
set_option maxRecDepth 100000 in
set_option maxHeartbeats 6400000 in
theorem rCheckJoint_any (js : List JointD) (vj : Value) (i : Nat) (w : World) (hj : RdC w vj js.length 12 (jcells js)) (hi : i < js.length) (hl : js.length ≤ 3) (hm : ∀ k (h : k < js.length), MadeJ k js[k]) :
    Calls Tryd.prog 60 #[ vj, .int .i64 i ] w fun e w' => e = .returned (.int .i64 0) ∧ Below w.heap.size w w' := by
  have HJ := Lib.hid hj
  have HM := Lib.hid hm
  obtain ⟨A, c, rfl, hc, hat⟩ := RdC.joint hj
  obtain ⟨g, rfl, hg, c0, c1, c2, c3, c4, c5, c6, c7, c8, c9, c10, c11⟩ := hat i hi
  have hf := fine_made (hm i hi)
  have hn : js[i].name = nameJ i := (hm i hi).1
  have HN := Lib.hid hn
  obtain ⟨j, hje⟩ : ∃ j, js[i] = j := ⟨_, rfl⟩
  rw [hje] at c0 c1 c2 c3 c4 c5 c6 c7 c8 c9 c10 c11 hf HN
  have hng := (name_good i (by omega)).1
  rw [← HN.out] at hng
  have HF := Lib.hid hf
  have HG := Lib.hid hng
  have HA := Lib.hid hat
  clear hj hm hat hf hn hng hje
  have J0 := Lib.hid (JointAt.at_new (V := w) (j := j) rfl)
  have B0 := Lib.hid ((Below.refl w.heap.size w).alloc (Nat.le_refl _) (.cells (jointC j) 106))
  simp only [jointC] at J0 B0
  go_enter Tryd.func60, Tryd.ntmps60
  go_wp2_with fail
  refine (rName_any _ _).mono ?_
  rintro e w1 ⟨rfl, rfl⟩
  rw [HG.out]
  go_wp2_with fail
  clear c0 c1 c2 c3 c4 c5 c6 c7 c8 c9 c10 c11
  obtain ⟨V, hV⟩ : ∃ V, w.alloc (.cells #[.string j.name, .int .i64 j.kind, .int .i64 j.parent, .int .i64 j.x, .int .i64 j.y, .int .i64 j.z, .int .i64 j.lo, .int .i64 j.hi, .int .i64 j.weight, .int .i64 j.speed, .int .i64 j.accel, .int .i64 j.torque] 106) = V := ⟨_, rfl⟩
  have hJ0 : JointAt V w.heap.size j := by rw [← hV]; exact J0.out
  have hB0 : Below w.heap.size w V := by rw [← hV]; exact B0.out
  rw [hV]
  have JV := Lib.hid hJ0
  have BV := Lib.hid hB0
  clear hV hJ0 hB0 J0 B0
  go_loopw [6] (fun i' wr => ∃ k : Nat, k ≤ i ∧ i' = .int .i64 k ∧ JointAt wr w.heap.size j ∧ Below w.heap.size w wr) (fun i' _ => i - (intOf i').toNat)
  case atStart => exact ⟨0, Nat.zero_le _, rfl, JV.out, BV.out⟩
  case round =>
    obtain ⟨k, hk, rfl, hJ, hB⟩ := hrel
    have JR := Lib.hid hJ
    have BR := Lib.hid hB
    by_cases hlt : k < i
    · obtain ⟨_, hgg, hgl, a0, _⟩ := HA.out k (by omega)
      injection hgg with hgg
      injection hgg with hgg _ _
      subst hgg
      have hnk : js[k].name = nameJ k := (HM.out k (by omega)).1
      rw [hnk] at a0
      have e0 := (hB.cell (p := ⟨g, k * 12, none⟩) hgl).trans a0
      obtain ⟨d0, _⟩ := hJ.all
      rw [HN.out] at d0
      have hap := name_apart i k (by omega) hlt
      obtain ⟨nk, hk1⟩ : ∃ b, nameJ k = b := ⟨_, rfl⟩
      obtain ⟨ni, hi1⟩ : ∃ b, nameJ i = b := ⟨_, rfl⟩
      rw [hk1] at e0 hap
      rw [hi1] at d0 hap
      have hgr : g < wr.heap.size := by have := hB.size; omega
      have hwr : w.heap.size < wr.heap.size := hJ.lt
      clear hJ hB a0 hnk hk1 hi1
      go_wp2_with fail
      go_quiet (fail)
      go_wp2_with fail
      go_roundw
      case rel => exact ⟨k + 1, by omega, by go_num, JR.out.drewN _, bl_drewN BR.out⟩
      case measure => simp [intOf]; omega
    · obtain ⟨d0, d1, d2, d3, d4, d5, d6, d7, d8, d9, d10, d11⟩ := hJ.all
      have hk0 := HF.out.k0
      have hk6 := HF.out.k6
      have hp0 := HF.out.p0
      have hp1 := HF.out.p1
      have hwr : w.heap.size < wr.heap.size := hJ.lt
      clear hJ hB
      go_wp2_with fail
      refine (rNear_any ⟨j.x, j.y, j.z⟩ 4194304 _ (by decide) (by decide) HF.out.x HF.out.y HF.out.z).mono ?_
      rintro e w1 ⟨rfl, hb⟩
      have hJ1 : JointAt w1 w.heap.size j := JR.out.below hb hwr
      have B1 := Lib.hid (bl_next hb BR.out)
      obtain ⟨d0, d1, d2, d3, d4, d5, d6, d7, d8, d9, d10, d11⟩ := hJ1.all
      clear hb hJ1
      go_wp2_with fail
      refine (rReach_any j.kind _).mono ?_
      rintro e w2 ⟨rfl, rfl⟩
      have hlh := HF.out.lh
      have hl0 := HF.out.l0
      have hh1 := HF.out.h1
      have hrc := reach_cases j.kind
      obtain ⟨r, hr⟩ : ∃ r, reachK j.kind = r := ⟨_, rfl⟩
      rw [hr] at hl0 hh1 hrc ⊢
      have hr0 : 0 ≤ r := by omega
      have hr1 : r ≤ 4194304 := by omega
      clear hrc hr
      go_wp2_with fail
      refine (rBetween_any j.weight 1 1024 _).mono ?_
      rintro e w2 ⟨rfl, rfl⟩
      rw [HF.out.we]
      go_wp2_with fail
      refine (rBetween_any j.speed 1 1048576 _).mono ?_
      rintro e w2 ⟨rfl, rfl⟩
      rw [HF.out.sp]
      go_wp2_with fail
      refine (rBetween_any j.accel 1 1048576 _).mono ?_
      rintro e w2 ⟨rfl, rfl⟩
      rw [HF.out.ac]
      go_wp2_with fail
      refine (rBetween_any j.torque 1 1099511627776 _).mono ?_
      rintro e w2 ⟨rfl, rfl⟩
      rw [HF.out.tq]
      go_wp2_with fail
      go_ret
      exact ⟨rfl, B1.out⟩
end Go.Proofs.YtnahlpeckfcciaaDoor
