/- Proved: the maker of joints returns some joint of moderate size, in memory of its own. Conditions: as each theorem states. -/
import Derived.Test.YtpaiapcnoifpmaaDoorSrc
import Derived.Deep.WholeRow
import Derived.Deep.OwnRows
import Derived.Deep.DeepCutAuto
import Derived.Lib.Hide
namespace Go.Proofs.YtpaiapcnoifpmaaDoor
open Go.RowKit

structure JointD where
  name : ByteArray
  kind : Int
  parent : Int
  x : Int
  y : Int
  z : Int
  lo : Int
  hi : Int
  weight : Int
  speed : Int
  accel : Int
  torque : Int
def jointC (j : JointD) : Array Value := #[.string j.name, .int .i64 j.kind, .int .i64 j.parent, .int .i64 j.x, .int .i64 j.y, .int .i64 j.z, .int .i64 j.lo, .int .i64 j.hi, .int .i64 j.weight, .int .i64 j.speed, .int .i64 j.accel, .int .i64 j.torque]
def zeroJ : JointD := ⟨⟨#[]⟩, 0, 0, 0, 0, 0, 0, 0, 0, 0, 0, 0⟩
/-- Block b holds the joint j, and may be written. -/
def JointAt (W : World) (b : Nat) (j : JointD) : Prop := W.heap[b]? = some (.cells (jointC j) 60 (0, 0))
theorem JointAt.lt {W : World} {b : Nat} {j : JointD} (h : JointAt W b j) : b < W.heap.size := lt_of_block h
theorem JointAt.at_new {V : World} {b : Nat} {j : JointD} (hb : V.heap.size = b) : JointAt (V.alloc (.cells (jointC j) 60)) b j := by subst hb; exact heap_alloc_new _ _
theorem JointAt.alloc {W : World} {b : Nat} {j : JointD} (h : JointAt W b j) (o : Obj) : JointAt (W.alloc o) b j := (Below.heap_alloc _ _ _ h.lt).trans h
theorem JointAt.but {W V : World} {b q : Nat} {j : JointD} (h : JointAt W b j) (k : But q W V) (hq : b ≠ q) : JointAt V b j := (k.block b h.lt hq).trans h
theorem JointAt.far {W : World} {b q k : Nat} {j : JointD} {v : Value} (h : JointAt W b j) (hq : b ≠ q) : JointAt (W.setCell ⟨q, k, none⟩ v) b j := (heap_setCell_other _ _ _ _ hq).trans h
theorem JointAt.set {W : World} {b : Nat} {j j' : JointD} (h : JointAt W b j) (k : Nat) (v : Value) (e : (jointC j).setIfInBounds k v = jointC j') : JointAt (W.setCell ⟨b, k, none⟩ v) b j' := by
  have := heap_setCell_same W b k _ _ v h
  rw [e] at this; exact this
theorem JointAt.cell {W : World} {b : Nat} {j : JointD} (h : JointAt W b j) (k : Nat) : W.cell? ⟨b, k, none⟩ = (jointC j)[k]? := cell_of_row W b k _ _ _ h
theorem JointAt.free {W : World} {b : Nat} {j : JointD} (h : JointAt W b j) (k : Nat) : W.frozen? ⟨b, k, none⟩ = false := frozen_of_row W b k _ _ h
theorem joint_one (j : JointD) : (jointC j).all (·.oneCell') = true := by unfold jointC; simp [Value.oneCell']
theorem info_joint : (Tryd.prog.info? 60).map (·.size) = some 12 := by kernel_rfl
theorem under_joint : Tryd.prog.underlying 60 = some (.struct (Tryd.prog.fieldsOf 60)) := by kernel_rfl
/-- The name of joint i. -/
def nameJ (i : Nat) : ByteArray := (⟨#[97, 98, 99, 100, 101, 102, 103, 104, 105, 106]⟩ : ByteArray).extract i (i + 1)
/-- What the maker makes for joint i. -/
def MadeJ (i : Nat) (j : JointD) : Prop := j.name = nameJ i ∧ 0 ≤ j.kind ∧ j.kind ≤ 5 ∧ (j.parent = (i : Int) - 1 ∨ j.parent = -1) ∧ (0 ≤ j.x ∧ j.x ≤ 131072) ∧ (-65536 ≤ j.y ∧ j.y ≤ 65536) ∧ (-32768 ≤ j.z ∧ j.z ≤ 32768) ∧
  (j.kind = 0 → j.lo = 0 ∧ j.hi = 0) ∧ (-131072 ≤ j.lo ∧ j.lo ≤ 0) ∧ (0 ≤ j.hi ∧ j.hi ≤ 98304) ∧ (1 ≤ j.kind ∧ j.kind ≤ 3 → -32768 ≤ j.lo ∧ 8192 ≤ j.hi ∧ j.hi ≤ 32770) ∧
  (1 ≤ j.weight ∧ j.weight ≤ 4) ∧ j.speed = 65536 ∧ (65536 ≤ j.accel ∧ j.accel ≤ 65538) ∧ j.torque = 327680
theorem letter_any (i : Nat) (a : Int) (w : World) (ha : a = i) (hi : i < 10) :
    Calls Tryd.prog 83 #[ .int .i64 a ] w fun e w' => e = .returned (.string (nameJ i)) ∧ w = w' := by
  subst ha
  rcases (show i = 0 ∨ i = 1 ∨ i = 2 ∨ i = 3 ∨ i = 4 ∨ i = 5 ∨ i = 6 ∨ i = 7 ∨ i = 8 ∨ i = 9 by omega) with rfl | rfl | rfl | rfl | rfl | rfl | rfl | rfl | rfl | rfl
  all_goals
    go_enter Tryd.func83, Tryd.ntmps83
    go_wp2
    go_ret
    exact ⟨rfl, rfl⟩
theorem Src.mk_alloc {B b : Nat} {W : World} (h : Src B W b) (o : Obj) : Src B (W.alloc o) b := h.below ((Below.refl _ _).alloc (Nat.le_refl _) o)
theorem But.mk_alloc {b : Nat} {u v : World} (h : But b u v) (o : Obj) : But b u (v.alloc o) :=
  h.trans ⟨rfl, rfl, rfl, by simp, fun k hk _ => Below.heap_alloc _ _ _ hk⟩
theorem Src.mk_set {B b q k : Nat} {v : Value} {W : World} (h : Src B W b) (hq : b ≠ q) (hB : B ≤ q) (hs : B ≤ W.heap.size) : Src B (W.setCell ⟨q, k, none⟩ v) b := h.but ((But.refl q W).set v k) hq hB hs
theorem But.mk_far {b q k : Nat} {v : Value} {u w : World} (h : But b u w) (hq : u.heap.size ≤ q) : But b u (w.setCell ⟨q, k, none⟩ v) :=
  ⟨h.os, h.tape, h.output, by rw [Go.Deep.nblk_setCell]; exact h.size, fun i hi hb => (heap_setCell_other _ _ _ _ (by dsimp only; omega)).trans (h.block i hi hb)⟩
theorem But.mk_row {b q : Nat} {c : Array Value} {u w : World} (h : But b u w) (hq : u.heap.size ≤ q) : But b u (w.setRow q c) :=
  ⟨h.os, h.tape, h.output, by rw [show (w.setRow q c).heap.size = w.heap.size by simp [World.setRow]]; exact h.size, fun i hi hb => (setRow_other _ _ _ _ (by omega)).trans (h.block i hi hb)⟩
theorem But.mk_own {q : Nat} {c : Array Value} {u : World} : But q u (u.setRow q c) :=
  ⟨rfl, rfl, rfl, by rw [show (u.setRow q c).heap.size = u.heap.size by simp [World.setRow]]; exact Nat.le_refl _, fun i hi hb => setRow_other _ _ _ _ hb⟩
theorem Src.mk_row {B b q : Nat} {c : Array Value} {W : World} (h : Src B W b) (hq : b ≠ q) (hB : B ≤ q) (hs : B ≤ W.heap.size) : Src B (W.setRow q c) b := h.but But.mk_own hq hB hs
/-- What is known while a joint is made: the source, the joint so far in block J, the result's block. -/
structure PH (B b : Nat) (w : World) (J : Nat) (W : World) (j : JointD) : Prop where
  src : Src B W b
  bt : But b w W
  jo : JointAt W J j
  re : JointAt W w.heap.size zeroJ
  bw : b < w.heap.size
  Bb : B ≤ b
  wJ : w.heap.size < J
theorem PH.set {B b J : Nat} {w W : World} {j j' : JointD} (h : PH B b w J W j) (k : Nat) (v : Value) (e : (jointC j).setIfInBounds k v = jointC j') : PH B b w J (W.setCell ⟨J, k, none⟩ v) j' := by
  have h1 := h.bw
  have h2 := h.Bb
  have h3 := h.wJ
  have h4 := h.bt.size
  exact ⟨h.src.mk_set (by omega) (by omega) (by omega), h.bt.mk_far (by omega), h.jo.set k v e, h.re.far (by omega), h1, h2, h3⟩
theorem Next_ph {B b J : Nat} {w W : World} {j : JointD} (h : PH B b w J W j) (k : Int) (k1 : 0 < k) (k2 : k ≤ 9223372036854775807) :
    Calls Tryd.prog 42 #[ .pointer (some ⟨b, 0, none⟩), .int .i64 k ] W fun e w' => ∃ r : Int, 0 ≤ r ∧ r < k ∧ e = .returned (.int .i64 r) ∧ PH B b w J w' j := by
  refine (Next_any B b k _ h.src k1 k2).mono ?_
  rintro e w' ⟨r, r0, r1, rfl, hs, hb⟩
  have h1 := h.bw
  have h3 := h.wJ
  exact ⟨r, r0, r1, rfl, hs, h.bt.trans hb, h.jo.but hb (by omega), h.re.but hb (by omega), h1, h.Bb, h3⟩
theorem Signed_ph {B b J : Nat} {w W : World} {j : JointD} (h : PH B b w J W j) (k : Int) (k1 : 0 ≤ k) (k2 : k ≤ 1099511627776) :
    Calls Tryd.prog 44 #[ .pointer (some ⟨b, 0, none⟩), .int .i64 k ] W fun e w' => ∃ r : Int, -k ≤ r ∧ r ≤ k ∧ e = .returned (.int .i64 r) ∧ PH B b w J w' j := by
  refine (Signed_any B b k _ h.src k1 k2).mono ?_
  rintro e w' ⟨r, r0, r1, rfl, hs, hb⟩
  have h1 := h.bw
  have h3 := h.wJ
  exact ⟨r, r0, r1, rfl, hs, h.bt.trans hb, h.jo.but hb (by omega), h.re.but hb (by omega), h1, h.Bb, h3⟩
theorem PH.done {B b J : Nat} {w W : World} {j : JointD} (h : PH B b w J W j) : Src B (W.setRow w.heap.size (jointC j)) b ∧ But b w (W.setRow w.heap.size (jointC j)) := by
  have h1 := h.bw
  have h2 := h.Bb
  have h4 := h.bt.size
  exact ⟨h.src.mk_row (by omega) (by omega) (by omega), h.bt.mk_row (Nat.le_refl _)⟩
theorem PH.start {B b : Nat} {w W : World} {j : JointD} (hb : But b w W) (hs : Src B W b) (hr : JointAt W w.heap.size zeroJ) (bw : b < w.heap.size) (Bb : B ≤ b) : PH B b w W.heap.size (W.alloc (.cells (jointC j) 60)) j :=
  ⟨hs.mk_alloc _, hb.mk_alloc _, JointAt.at_new rfl, hr.alloc _, bw, Bb, hr.lt⟩
theorem kinds_at (k : Int) (h0 : 0 ≤ k) (h1 : k < 8) : ∃ K : Int, (K = 0 ∨ K = 4 ∨ K = 5 ∨ 1 ≤ K ∧ K ≤ 3) ∧ ∀ w, (Instr.index 131 (.agg #[.int .i64 3, .int .i64 3, .int .i64 1, .int .i64 2, .int .i64 4, .int .i64 5, .int .i64 3, .int .i64 0]) (.int .i64 k)).run Tryd.prog w = .ok (.int .i64 K) w := by
  rcases (show k = 0 ∨ k = 1 ∨ k = 2 ∨ k = 3 ∨ k = 4 ∨ k = 5 ∨ k = 6 ∨ k = 7 by omega) with rfl | rfl | rfl | rfl | rfl | rfl | rfl | rfl
  · exact ⟨3, by decide, fun w => by kernel_rfl⟩
  · exact ⟨3, by decide, fun w => by kernel_rfl⟩
  · exact ⟨1, by decide, fun w => by kernel_rfl⟩
  · exact ⟨2, by decide, fun w => by kernel_rfl⟩
  · exact ⟨4, by decide, fun w => by kernel_rfl⟩
  · exact ⟨5, by decide, fun w => by kernel_rfl⟩
  · exact ⟨3, by decide, fun w => by kernel_rfl⟩
  · exact ⟨0, by decide, fun w => by kernel_rfl⟩
set_option linter.unusedSimpArgs false in
set_option linter.unusedVariables false in
set_option maxRecDepth 100000 in
set_option maxHeartbeats 12800000 in
theorem joint_any (B b i : Nat) (w : World) (hs : Src B w b) (bw : b < w.heap.size) (Bb : B ≤ b) (hi : i < 10) (a : Int) (ha : a = i) :
    Calls Tryd.prog 59 #[ .pointer (some ⟨b, 0, none⟩), .int .i64 a ] w fun e w' => ∃ j : JointD, e = .returned (.agg (jointC j)) ∧ MadeJ i j ∧ Src B w' b ∧ But b w w' := by
  subst ha
  have HR := Lib.hid (show JointAt (w.alloc (.cells (jointC zeroJ) 60)) w.heap.size zeroJ from JointAt.at_new rfl)
  have HS := Lib.hid (hs.mk_alloc (.cells (jointC zeroJ) 60))
  have HB := Lib.hid ((But.refl b w).mk_alloc (.cells (jointC zeroJ) 60))
  clear hs
  go_enter Tryd.func59, Tryd.ntmps59
  go_wp2_with fail
  refine (letter_any i _ _ rfl hi).mono ?_
  rintro e w1 ⟨rfl, rfl⟩
  go_wp2_with fail
  refine (Next_any B b 4 _ HS.out (by omega) (by omega)).mono ?_
  rintro e w1 ⟨r, r0, r1, rfl, hs1, hb1⟩
  have HS1 := Lib.hid hs1
  have HB1 := Lib.hid (HB.out.trans hb1)
  have HR1 := Lib.hid (HR.out.but hb1 (by omega))
  clear HS HB HR hs1 hb1
  go_wp2_with fail
  refine (Next_any B b 3 _ HS1.out (by omega) (by omega)).mono ?_
  rintro e w2 ⟨q, q0, q1, rfl, hs2, hb2⟩
  have HB2 := Lib.hid (HB1.out.trans hb2)
  have HR2 := Lib.hid (HR1.out.but hb2 (by omega))
  have HP := Lib.hid (PH.start (j := ⟨nameJ i, 0, (i : Int) - 1, 0, 0, 0, 0, 0, 1 + r, 65536, 65536 + q, 327680⟩) HB2.out hs2 HR2.out bw Bb)
  clear HS1 HB1 HR1 HB2 HR2 hs2 hb2
  go_wp2_with fail
  obtain ⟨J, hJ⟩ : ∃ J, w2.heap.size = J := ⟨_, rfl⟩
  obtain ⟨wt, hwt⟩ : ∃ wt, 1 + r = wt := ⟨_, rfl⟩
  obtain ⟨ac, hac⟩ : ∃ ac, 65536 + q = ac := ⟨_, rfl⟩
  have wt0 : 1 ≤ wt ∧ wt ≤ 4 := by omega
  have ac0 : 65536 ≤ ac ∧ ac ≤ 65538 := by omega
  rw [hwt, hac] at HP
  rw [hJ] at HP
  simp only [jointC] at HP
  simp only [hwt, hac]
  obtain ⟨U, hU⟩ : ∃ U, w2.alloc (.cells #[.string (nameJ i), .int .i64 0, .int .i64 ((i : Int) - 1), .int .i64 0, .int .i64 0, .int .i64 0, .int .i64 0, .int .i64 0, .int .i64 wt, .int .i64 65536, .int .i64 ac, .int .i64 327680] 60) = U := ⟨_, rfl⟩
  rw [hU] at HP
  rw [hU, hJ]
  clear hU hJ hwt hac r0 r1 q0 q1
  refine (Next_ph HP.out 8 (by omega) (by omega)).mono ?_
  rintro e w' ⟨kd, kd0, kd1, rfl, hp⟩
  clear HP
  have HP := Lib.hid hp
  clear hp
  obtain ⟨K, hK, hix⟩ := kinds_at kd kd0 kd1
  have c1 : _ = some (.int .i64 0 : Value) := HP.out.jo.cell 1
  have f1 := HP.out.jo.free 1
  go_wp2_with fail
  clear c1 f1 hix
  have HP2 := Lib.hid (HP.out.set 1 (.int .i64 K) (j' := ⟨nameJ i, K, ((i : Int) - 1), 0, 0, 0, 0, 0, wt, 65536, ac, 327680⟩) rfl)
  clear HP
  have HP := HP2
  clear HP2
  refine (Next_ph HP.out 4 (by omega) (by omega)).mono ?_
  rintro e w' ⟨p, p0, p1, rfl, hp⟩
  clear HP
  have HP := Lib.hid hp
  clear hp
  have c2 : _ = some (.int .i64 ((i : Int) - 1) : Value) := HP.out.jo.cell 2
  have f2 := HP.out.jo.free 2
  go_upto_if 24 with (fail)
  go_cut [] (fun wx => ∃ par : Int, (par = (i : Int) - 1 ∨ par = -1) ∧ PH B b w J wx ⟨nameJ i, K, par, 0, 0, 0, 0, 0, wt, 65536, ac, 327680⟩)
  case first =>
    by_cases hp : p = 1
    · have p1 : ((p : Int) == 1) = true := by simp [hp]
      clear hp
      go_wp2_with fail
      go_meet
      exact ⟨-1, .inr rfl, HP.out.set 2 (.int .i64 (-1)) (j' := ⟨nameJ i, K, (-1), 0, 0, 0, 0, 0, wt, 65536, ac, 327680⟩) rfl⟩
    · have p1 : ((p : Int) == 1) = false := by simp [hp]
      clear hp
      go_wp2_with fail
      go_meet
      exact ⟨_, .inl rfl, HP.out⟩
  case rest =>
    obtain ⟨par, hpar, hp⟩ := hcut
    clear HP c2 f2 p0 p1
    have HP := Lib.hid hp
    clear hp
    go_upto_if 27 with (fail)
    go_cut [] (fun wx => ∃ x y z : Int, (0 ≤ x ∧ x ≤ 131072) ∧ (-65536 ≤ y ∧ y ≤ 65536) ∧ (-32768 ≤ z ∧ z ≤ 32768) ∧ PH B b w J wx ⟨nameJ i, K, par, x, y, z, 0, 0, wt, 65536, ac, 327680⟩)
    case first =>
      by_cases hi0 : 0 < i
      · skip
        go_wp2_with fail
        refine (Signed_ph HP.out 2 (by omega) (by omega)).mono ?_
        rintro e w' ⟨y, y0, y1, rfl, hp⟩
        clear HP
        have HP := Lib.hid hp
        clear hp
        go_wp2_with fail
        refine (Signed_ph HP.out 1 (by omega) (by omega)).mono ?_
        rintro e w' ⟨z, z0, z1, rfl, hp⟩
        clear HP
        have HP := Lib.hid hp
        clear hp
        have c3 : _ = some (.int .i64 0 : Value) := HP.out.jo.cell 3
        have f3 := HP.out.jo.free 3
        have c4 : _ = some (.int .i64 0 : Value) := HP.out.jo.cell 4
        have f4 := HP.out.jo.free 4
        have c5 : _ = some (.int .i64 0 : Value) := HP.out.jo.cell 5
        have f5 := HP.out.jo.free 5
        go_wp2_with fail
        go_meet
        exact ⟨131072, y * 32768, z * 32768, by omega, by omega, by omega, ((HP.out.set 3 (.int .i64 131072) (j' := ⟨nameJ i, K, par, 131072, 0, 0, 0, 0, wt, 65536, ac, 327680⟩) rfl).set 4 (.int .i64 (y * 32768)) (j' := ⟨nameJ i, K, par, 131072, (y * 32768), 0, 0, 0, wt, 65536, ac, 327680⟩) rfl).set 5 (.int .i64 (z * 32768)) (j' := ⟨nameJ i, K, par, 131072, (y * 32768), (z * 32768), 0, 0, wt, 65536, ac, 327680⟩) rfl⟩
      · skip
        go_wp2_with fail
        go_meet
        exact ⟨0, 0, 0, by omega, by omega, by omega, HP.out⟩
    case rest =>
      obtain ⟨x, y, z, hx, hy, hz, hp⟩ := hcut
      clear HP
      have HP := Lib.hid hp
      clear hp
      rcases hK with rfl | rfl | rfl | ⟨K1, K2⟩
      · have c1 : _ = some (.int .i64 0 : Value) := HP.out.jo.cell 1
        have HE := Lib.hid HP.out
        go_wp2_with (first | (refine wpList_load_row rfl 60 _ rfl (J) rfl 60 _ (0, 0) _ HE.out.jo under_joint rfl info_joint ?_) | (refine wpList_store_row rfl 60 _ _ rfl (w.heap.size) (jointC ⟨nameJ i, 0, par, x, y, z, 0, 0, wt, 65536, ac, 327680⟩) rfl rfl 60 (jointC zeroJ) HE.out.re info_joint rfl (joint_one _) ?_))
        (try simp only [Exit.inBlock, Exit.then])
        refine bodyPost_ret (v := .agg (jointC ⟨nameJ i, 0, par, x, y, z, 0, 0, wt, 65536, ac, 327680⟩)) ?_ rfl ⟨⟨nameJ i, 0, par, x, y, z, 0, 0, wt, 65536, ac, 327680⟩, rfl, ?_, HE.out.done.1, HE.out.done.2⟩
        · exact results_cell_row rfl _ _ (w.heap.size) 60 _ (0, 0) _ rfl (setRow_heap _ _ _ _ _ _ HE.out.re) under_joint rfl info_joint
        · unfold MadeJ; refine ⟨rfl, ?_⟩; dsimp only; omega
      · have c1 : _ = some (.int .i64 4 : Value) := HP.out.jo.cell 1
        go_wp2_with fail
        clear c1
        refine (Next_ph HP.out 3 (by omega) (by omega)).mono ?_
        rintro e w' ⟨u, u0, u1, rfl, hp⟩
        clear HP
        have HP := Lib.hid hp
        clear hp
        go_wp2_with fail
        refine (Next_ph HP.out 4 (by omega) (by omega)).mono ?_
        rintro e w' ⟨v, v0, v1, rfl, hp⟩
        clear HP
        have HP := Lib.hid hp
        clear hp
        have c6 : _ = some (.int .i64 0 : Value) := HP.out.jo.cell 6
        have f6 := HP.out.jo.free 6
        have c7 : _ = some (.int .i64 0 : Value) := HP.out.jo.cell 7
        have f7 := HP.out.jo.free 7
        have HE := Lib.hid ((HP.out.set 6 (.int .i64 (-u * 65536)) (j' := ⟨nameJ i, 4, par, x, y, z, (-u * 65536), 0, wt, 65536, ac, 327680⟩) rfl).set 7 (.int .i64 (v * 32768)) (j' := ⟨nameJ i, 4, par, x, y, z, (-u * 65536), (v * 32768), wt, 65536, ac, 327680⟩) rfl)
        go_wp2_with (first | (refine wpList_load_row rfl 60 _ rfl (J) rfl 60 _ (0, 0) _ HE.out.jo under_joint rfl info_joint ?_) | (refine wpList_store_row rfl 60 _ _ rfl (w.heap.size) (jointC ⟨nameJ i, 4, par, x, y, z, (-u * 65536), (v * 32768), wt, 65536, ac, 327680⟩) rfl rfl 60 (jointC zeroJ) HE.out.re info_joint rfl (joint_one _) ?_))
        (try simp only [Exit.inBlock, Exit.then])
        refine bodyPost_ret (v := .agg (jointC ⟨nameJ i, 4, par, x, y, z, (-u * 65536), (v * 32768), wt, 65536, ac, 327680⟩)) ?_ rfl ⟨⟨nameJ i, 4, par, x, y, z, (-u * 65536), (v * 32768), wt, 65536, ac, 327680⟩, rfl, ?_, HE.out.done.1, HE.out.done.2⟩
        · exact results_cell_row rfl _ _ (w.heap.size) 60 _ (0, 0) _ rfl (setRow_heap _ _ _ _ _ _ HE.out.re) under_joint rfl info_joint
        · unfold MadeJ; refine ⟨rfl, ?_⟩; dsimp only; omega
      · have c1 : _ = some (.int .i64 5 : Value) := HP.out.jo.cell 1
        go_wp2_with fail
        clear c1
        refine (Next_ph HP.out 3 (by omega) (by omega)).mono ?_
        rintro e w' ⟨u, u0, u1, rfl, hp⟩
        clear HP
        have HP := Lib.hid hp
        clear hp
        go_wp2_with fail
        refine (Next_ph HP.out 4 (by omega) (by omega)).mono ?_
        rintro e w' ⟨v, v0, v1, rfl, hp⟩
        clear HP
        have HP := Lib.hid hp
        clear hp
        have c6 : _ = some (.int .i64 0 : Value) := HP.out.jo.cell 6
        have f6 := HP.out.jo.free 6
        have c7 : _ = some (.int .i64 0 : Value) := HP.out.jo.cell 7
        have f7 := HP.out.jo.free 7
        have HE := Lib.hid ((HP.out.set 6 (.int .i64 (-u * 65536)) (j' := ⟨nameJ i, 5, par, x, y, z, (-u * 65536), 0, wt, 65536, ac, 327680⟩) rfl).set 7 (.int .i64 (v * 32768)) (j' := ⟨nameJ i, 5, par, x, y, z, (-u * 65536), (v * 32768), wt, 65536, ac, 327680⟩) rfl)
        go_wp2_with (first | (refine wpList_load_row rfl 60 _ rfl (J) rfl 60 _ (0, 0) _ HE.out.jo under_joint rfl info_joint ?_) | (refine wpList_store_row rfl 60 _ _ rfl (w.heap.size) (jointC ⟨nameJ i, 5, par, x, y, z, (-u * 65536), (v * 32768), wt, 65536, ac, 327680⟩) rfl rfl 60 (jointC zeroJ) HE.out.re info_joint rfl (joint_one _) ?_))
        (try simp only [Exit.inBlock, Exit.then])
        refine bodyPost_ret (v := .agg (jointC ⟨nameJ i, 5, par, x, y, z, (-u * 65536), (v * 32768), wt, 65536, ac, 327680⟩)) ?_ rfl ⟨⟨nameJ i, 5, par, x, y, z, (-u * 65536), (v * 32768), wt, 65536, ac, 327680⟩, rfl, ?_, HE.out.done.1, HE.out.done.2⟩
        · exact results_cell_row rfl _ _ (w.heap.size) 60 _ (0, 0) _ rfl (setRow_heap _ _ _ _ _ _ HE.out.re) under_joint rfl info_joint
        · unfold MadeJ; refine ⟨rfl, ?_⟩; dsimp only; omega
      · have c1 : _ = some (.int .i64 K : Value) := HP.out.jo.cell 1
        have k0 : ((K : Int) == 0) = false := by simp; omega
        have k4 : ((K : Int) == 4) = false := by simp; omega
        have k5 : ((K : Int) == 5) = false := by simp; omega
        go_wp2_with fail
        clear c1 k0 k4 k5
        refine (Next_ph HP.out 5 (by omega) (by omega)).mono ?_
        rintro e w' ⟨u, u0, u1, rfl, hp⟩
        clear HP
        have HP := Lib.hid hp
        clear hp
        go_wp2_with fail
        refine (Next_ph HP.out 4 (by omega) (by omega)).mono ?_
        rintro e w' ⟨v, v0, v1, rfl, hp⟩
        clear HP
        have HP := Lib.hid hp
        clear hp
        go_wp2_with fail
        refine (Next_ph HP.out 3 (by omega) (by omega)).mono ?_
        rintro e w' ⟨s, s0, s1, rfl, hp⟩
        clear HP
        have HP := Lib.hid hp
        clear hp
        have c6 : _ = some (.int .i64 0 : Value) := HP.out.jo.cell 6
        have f6 := HP.out.jo.free 6
        have c7 : _ = some (.int .i64 0 : Value) := HP.out.jo.cell 7
        have f7 := HP.out.jo.free 7
        have h8 : (-u * 65536).tdiv 8 = -(u * 8192) := by rw [show -u * 65536 = -(u * 65536) by omega, Int.neg_tdiv, Int.tdiv_eq_ediv_of_nonneg (by omega)]; omega
        have HE := Lib.hid ((HP.out.set 6 (.int .i64 (-(u * 8192))) (j' := ⟨nameJ i, K, par, x, y, z, (-(u * 8192)), 0, wt, 65536, ac, 327680⟩) rfl).set 7 (.int .i64 ((1 + v) * 65536 / 8 + s)) (j' := ⟨nameJ i, K, par, x, y, z, (-(u * 8192)), ((1 + v) * 65536 / 8 + s), wt, 65536, ac, 327680⟩) rfl)
        go_wp2_with (first | (refine wpList_load_row rfl 60 _ rfl (J) rfl 60 _ (0, 0) _ HE.out.jo under_joint rfl info_joint ?_) | (refine wpList_store_row rfl 60 _ _ rfl (w.heap.size) (jointC ⟨nameJ i, K, par, x, y, z, (-(u * 8192)), ((1 + v) * 65536 / 8 + s), wt, 65536, ac, 327680⟩) rfl rfl 60 (jointC zeroJ) HE.out.re info_joint rfl (joint_one _) ?_))
        (try simp only [Exit.inBlock, Exit.then])
        refine bodyPost_ret (v := .agg (jointC ⟨nameJ i, K, par, x, y, z, (-(u * 8192)), ((1 + v) * 65536 / 8 + s), wt, 65536, ac, 327680⟩)) ?_ rfl ⟨⟨nameJ i, K, par, x, y, z, (-(u * 8192)), ((1 + v) * 65536 / 8 + s), wt, 65536, ac, 327680⟩, rfl, ?_, HE.out.done.1, HE.out.done.2⟩
        · exact results_cell_row rfl _ _ (w.heap.size) 60 _ (0, 0) _ rfl (setRow_heap _ _ _ _ _ _ HE.out.re) under_joint rfl info_joint
        · unfold MadeJ; refine ⟨rfl, ?_⟩; dsimp only; omega
end Go.Proofs.YtpaiapcnoifpmaaDoor
