/- Proved: the developers' rotation by an interval of angles. Conditions: as each theorem states. -/
import Derived.Test.YtdplgiccpjlelaaMatF
import Derived.Test.YtdplgiccpjlelaaAngV
import Derived.Test.YtdplgiccpjlelaaAngV2
import Derived.Test.YtdplgiccpjlelaaMat5
import Derived.Deep.RegionHeld3
import Derived.Deep.DeepCutAuto
namespace Go.Proofs.Ytdplgiccpjlelaa
open Go.RowKit

set_option linter.unusedSimpArgs false in
set_option linter.unusedVariables false in
set_option maxRecDepth 100000 in
set_option maxHeartbeats 25600000 in
theorem mTurn_valid (k : Int) (a : Iv) (y : M3) (w : World) (hy : rotM k (cosO a) (sinO a) = y) (hv : Valid a) :
    Calls Try.prog 36 #[ .int .i64 k, .agg #[.int .i64 a.lo, .int .i64 a.hi] ] w fun e w' => e = .returned (.agg #[.int .i64 ((y).x).x.lo, .int .i64 ((y).x).x.hi, .int .i64 ((y).x).y.lo, .int .i64 ((y).x).y.hi, .int .i64 ((y).x).z.lo, .int .i64 ((y).x).z.hi, .int .i64 ((y).y).x.lo, .int .i64 ((y).y).x.hi, .int .i64 ((y).y).y.lo, .int .i64 ((y).y).y.hi, .int .i64 ((y).y).z.lo, .int .i64 ((y).y).z.hi, .int .i64 ((y).z).x.lo, .int .i64 ((y).z).x.hi, .int .i64 ((y).z).y.lo, .int .i64 ((y).z).y.hi, .int .i64 ((y).z).z.lo, .int .i64 ((y).z).z.hi]) ∧ Below w.heap.size w w' := by
  have Hy := Lib.hid hy
  clear hy
  have e0 := validB_true hv
  have A0 := Lib.hid (show IvAt ((w.alloc (.cells #[.int .i64 a.lo, .int .i64 a.hi] 23)).alloc (.cells #[.int .i64 0, .int .i64 0, .int .i64 0, .int .i64 0, .int .i64 0, .int .i64 0, .int .i64 0, .int .i64 0, .int .i64 0, .int .i64 0, .int .i64 0, .int .i64 0, .int .i64 0, .int .i64 0, .int .i64 0, .int .i64 0, .int .i64 0, .int .i64 0] 26)) w.heap.size a from (IvAt.new w a).alloc _)
  have R0 := Lib.hid (show MatAt ((w.alloc (.cells #[.int .i64 a.lo, .int .i64 a.hi] 23)).alloc (.cells #[.int .i64 0, .int .i64 0, .int .i64 0, .int .i64 0, .int .i64 0, .int .i64 0, .int .i64 0, .int .i64 0, .int .i64 0, .int .i64 0, .int .i64 0, .int .i64 0, .int .i64 0, .int .i64 0, .int .i64 0, .int .i64 0, .int .i64 0, .int .i64 0] 26)) (w.heap.size + 1) zeroM from MatAt.at_new (v := zeroM) (by simp))
  have B0 := Lib.hid (show Below w.heap.size w ((w.alloc (.cells #[.int .i64 a.lo, .int .i64 a.hi] 23)).alloc (.cells #[.int .i64 0, .int .i64 0, .int .i64 0, .int .i64 0, .int .i64 0, .int .i64 0, .int .i64 0, .int .i64 0, .int .i64 0, .int .i64 0, .int .i64 0, .int .i64 0, .int .i64 0, .int .i64 0, .int .i64 0, .int .i64 0, .int .i64 0, .int .i64 0] 26)) from below_alloc (below_alloc (Below.refl _ _) _) _)
  go_enter Try.func36, Try.ntmps36
  go_wp2_with fail
  refine (Valid_any _ _).mono ?_
  rintro e V0 ⟨rfl, hb1⟩
  have hA0 := Lib.hid (A0.out.below hb1)
  have hR0 := Lib.hid (R0.out.below hb1)
  have BV0 := Lib.hid (below_next hb1 B0.out)
  clear hb1 A0 R0 B0
  go_wp2_with fail
  refine (Of_any 0 _).mono ?_
  rintro e V1 ⟨rfl, hb2⟩
  go_wp2_with fail
  refine (Of_any 65536 _).mono ?_
  rintro e V2 ⟨rfl, hb3⟩
  have hb4 := below_next hb3 hb2
  have hA1 := Lib.hid (hA0.out.below hb4)
  have hR1 := Lib.hid (hR0.out.below hb4)
  have BV1 := Lib.hid (below_next hb4 BV0.out)
  clear hb2 hb3 hb4 hA0 hR0 BV0
  go_wp2_with fail
  have hA := Lib.hid (show IvAt ((V2.alloc (.cells #[.int .i64 (ofI 0).lo, .int .i64 (ofI 0).hi] 23)).alloc (.cells #[.int .i64 (ofI 65536).lo, .int .i64 (ofI 65536).hi] 23)) w.heap.size a from (hA1.out.alloc _).alloc _)
  have hR := Lib.hid (show MatAt ((V2.alloc (.cells #[.int .i64 (ofI 0).lo, .int .i64 (ofI 0).hi] 23)).alloc (.cells #[.int .i64 (ofI 65536).lo, .int .i64 (ofI 65536).hi] 23)) (w.heap.size + 1) zeroM from (hR1.out.alloc _).alloc _)
  have BV := Lib.hid (show Below w.heap.size w ((V2.alloc (.cells #[.int .i64 (ofI 0).lo, .int .i64 (ofI 0).hi] 23)).alloc (.cells #[.int .i64 (ofI 65536).lo, .int .i64 (ofI 65536).hi] 23)) from below_alloc (below_alloc BV1.out _) _)
  have hz := Lib.hid (show IvAt ((V2.alloc (.cells #[.int .i64 (ofI 0).lo, .int .i64 (ofI 0).hi] 23)).alloc (.cells #[.int .i64 (ofI 65536).lo, .int .i64 (ofI 65536).hi] 23)) V2.heap.size (ofI 0) from (IvAt.new V2 (ofI 0)).alloc _)
  have ho := Lib.hid (show IvAt ((V2.alloc (.cells #[.int .i64 (ofI 0).lo, .int .i64 (ofI 0).hi] 23)).alloc (.cells #[.int .i64 (ofI 65536).lo, .int .i64 (ofI 65536).hi] 23)) (V2.heap.size + 1) (ofI 65536) from IvAt.at_new (by simp))
  have q0 := hR1.out.lt
  obtain ⟨V, hV⟩ : ∃ V : World, V = ((V2.alloc (.cells #[.int .i64 (ofI 0).lo, .int .i64 (ofI 0).hi] 23)).alloc (.cells #[.int .i64 (ofI 65536).lo, .int .i64 (ofI 65536).hi] 23)) := ⟨_, rfl⟩
  rw [← hV] at hA hR BV hz ho ⊢
  clear hV hA1 hR1 BV1
  have g0 : ∀ w3 : World, Below V.heap.size V w3 → w3.cell? ⟨w.heap.size, 0, none⟩ = some (.int .i64 a.lo) := fun w3 h => (hA.out.below h).c0
  have g1 : ∀ w3 : World, Below V.heap.size V w3 → w3.cell? ⟨w.heap.size, 1, none⟩ = some (.int .i64 a.hi) := fun w3 h => (hA.out.below h).c1
  go_cut [7, 8] (fun u7 u8 wx => ∃ n4 n5, u7 = .pointer (some ⟨n4, 0, none⟩) ∧ u8 = .pointer (some ⟨n5, 0, none⟩) ∧ Below V.heap.size V wx ∧ IvAt wx n4 (cosO a) ∧ IvAt wx n5 (sinO a))
  case first =>
    refine wp_region_held_drew (S := fun w3 => Below V.heap.size V w3) (by kernel_rfl) (Below.refl _ _).drew (fun hHeld => ?_)
    refine wpAnyH_take (i := 0) (v := ?_) rfl (by kernel_rfl) (by kernel_rfl) (by kernel_rfl) (fun _ _ _ h => h) (Or.inl ⟨by rfl, ?_⟩) (by assumption) ?_; rotate_left; (focus (intro w hSw; (try dsimp only at hSw); go_simp; try with_reducible rfl)); (try simp only [Act.put, List.getElem_toArray, List.getElem_cons_succ, List.getElem_cons_zero, List.setIfInBounds_toArray, List.set_cons_zero, List.set_cons_succ])
    refine wpAnyH_take (i := 2) (v := ?_) rfl (by kernel_rfl) (by kernel_rfl) (by kernel_rfl) (fun _ _ _ h => h) (Or.inl ⟨by rfl, ?_⟩) (by assumption) ?_; rotate_left; (focus (intro w hSw; (try dsimp only at hSw); go_simp; try with_reducible rfl)); (try simp only [Act.put, List.getElem_toArray, List.getElem_cons_succ, List.getElem_cons_zero, List.setIfInBounds_toArray, List.set_cons_zero, List.set_cons_succ])
    generalize hX : wpAnyH _ _ _ _ _ = X
    have HX := Lib.hid hX
    clear hX
    have s2_4_5 : ∀ (W : World) (n4 : Nat) (n5 : Nat), Below V.heap.size V W → IvAt W n4 zeroI → V.heap.size ≤ n4 → IvAt W n5 zeroI → V.heap.size ≤ n5 → n4 ≠ n5 → X 2 #[true, true, true, true, true, true, false, false] ⟨#[.int .i64 k, .agg #[.int .i64 a.lo, .int .i64 a.hi], undef, .pointer (some ⟨w.heap.size, 0, none⟩), .pointer (some ⟨w.heap.size + 1, 0, none⟩), .pointer (some ⟨V2.heap.size, 0, none⟩), .pointer (some ⟨V2.heap.size + 1, 0, none⟩), .pointer (some ⟨n4, 0, none⟩), .pointer (some ⟨n5, 0, none⟩), undef, .agg #[.int .i64 a.lo, .int .i64 a.hi], .bool true, .bool false, undef, .agg #[.int .i64 (ofI 0).lo, .int .i64 (ofI 0).hi], .agg #[.int .i64 (ofI 65536).lo, .int .i64 (ofI 65536).hi], .agg #[.int .i64 a.lo, .int .i64 a.hi], .agg #[.int .i64 (cosO a).lo, .int .i64 (cosO a).hi], .agg #[.int .i64 a.lo, .int .i64 a.hi], .agg #[.int .i64 (sinO a).lo, .int .i64 (sinO a).hi], undef, undef, undef, undef, undef, undef, undef, undef, undef, undef, undef, undef, undef, undef, undef, undef, undef, undef, undef, undef, undef, undef, undef, undef, undef, undef, undef, undef, undef, undef, undef, undef, undef, undef, undef, undef, undef, undef, undef, undef, undef, undef, undef, undef, undef, undef, undef, undef, undef], []⟩ W := by
      intro W n4 n5 hH h4 l4 h5 l5 d4_5
      rw [← HX.out]
      have m0 := (h4).c0; have m1 := (h4).c1; have m2 := (h4).f0; have m3 := (h4).f1
      refine wpAnyH_ready (rs := [6]) (by kernel_rfl) (by simp) (AllReadyH.cons rfl (fun K hK => ?_) AllReadyH.nil)
      go_simp; refine hK.out _ _ ?_ (fun hHeld6 => ?_); (focus exact Below.setCell (Below.setCell hH l4 _) l4 _); clear hK K m0 m1 m2 m3; (try simp only [Act.put, List.getElem_toArray, List.getElem_cons_succ, List.getElem_cons_zero, List.setIfInBounds_toArray, List.set_cons_zero, List.set_cons_succ])
      have p6_4 := (h4).set (cosO a)
      have p6_5 := ((h5).far (q := n4) (k := 0) (v := .int .i64 (cosO a).lo) d4_5.symm).far (q := n4) (k := 1) (v := .int .i64 (cosO a).hi) d4_5.symm
      have m0 := (p6_5).c0; have m1 := (p6_5).c1; have m2 := (p6_5).f0; have m3 := (p6_5).f1
      refine wpAnyH_ready (rs := [7]) (by kernel_rfl) (by simp) (AllReadyH.cons rfl (fun K hK => ?_) AllReadyH.nil)
      go_simp; refine hK.out _ _ ?_ (fun hHeld7 => ?_); (focus exact Below.setCell (Below.setCell hHeld6 l5 _) l5 _); clear hK K m0 m1 m2 m3; (try simp only [Act.put, List.getElem_toArray, List.getElem_cons_succ, List.getElem_cons_zero, List.setIfInBounds_toArray, List.set_cons_zero, List.set_cons_succ])
      have p7_4 := ((p6_4).far (q := n5) (k := 0) (v := .int .i64 (sinO a).lo) d4_5).far (q := n5) (k := 1) (v := .int .i64 (sinO a).hi) d4_5
      have p7_5 := (p6_5).set (sinO a)
      refine wpAnyH_done (by kernel_rfl) ?_ _
      go_wp2_with fail
      go_meet
      exact ⟨n4, n5, rfl, rfl, hHeld7, p7_4, p7_5⟩
    have s1_4_5 : ∀ (W : World) (n4 : Nat) (n5 : Nat), Below V.heap.size V W → IvAt W n4 zeroI → V.heap.size ≤ n4 → IvAt W n5 zeroI → V.heap.size ≤ n5 → n4 ≠ n5 → X 3 #[true, true, true, false, true, true, false, false] ⟨#[.int .i64 k, .agg #[.int .i64 a.lo, .int .i64 a.hi], undef, .pointer (some ⟨w.heap.size, 0, none⟩), .pointer (some ⟨w.heap.size + 1, 0, none⟩), .pointer (some ⟨V2.heap.size, 0, none⟩), .pointer (some ⟨V2.heap.size + 1, 0, none⟩), .pointer (some ⟨n4, 0, none⟩), .pointer (some ⟨n5, 0, none⟩), undef, .agg #[.int .i64 a.lo, .int .i64 a.hi], .bool true, .bool false, undef, .agg #[.int .i64 (ofI 0).lo, .int .i64 (ofI 0).hi], .agg #[.int .i64 (ofI 65536).lo, .int .i64 (ofI 65536).hi], .agg #[.int .i64 a.lo, .int .i64 a.hi], .agg #[.int .i64 (cosO a).lo, .int .i64 (cosO a).hi], .agg #[.int .i64 a.lo, .int .i64 a.hi], undef, undef, undef, undef, undef, undef, undef, undef, undef, undef, undef, undef, undef, undef, undef, undef, undef, undef, undef, undef, undef, undef, undef, undef, undef, undef, undef, undef, undef, undef, undef, undef, undef, undef, undef, undef, undef, undef, undef, undef, undef, undef, undef, undef, undef, undef, undef, undef, undef, undef], []⟩ W := by
      intro W n4 n5 hH h4 l4 h5 l5 d4_5
      rw [← HX.out]
      refine wpAnyH_ready (rs := [3]) (by kernel_rfl) (by simp) (AllReadyH.cons rfl (fun K hK => ?_) (AllReadyH.nil))
      · go_simp; (go_at_call 57; refine (SinOver_any _ _).mono ?_; rintro e w' ⟨rfl, hb2⟩); go_wp2_with fail; refine hK.out _ _ ?_ (fun hHeld => ?_); (focus exact below_next hb2 hH); rw [HX.out]; exact s2_4_5 w' n4 n5 (below_next hb2 hH) (h4.below hb2) l4 (h5.below hb2) l5 d4_5
    have s2_4 : ∀ (W : World) (n4 : Nat), Below V.heap.size V W → IvAt W n4 zeroI → V.heap.size ≤ n4 → X 3 #[true, true, true, true, true, false, false, false] ⟨#[.int .i64 k, .agg #[.int .i64 a.lo, .int .i64 a.hi], undef, .pointer (some ⟨w.heap.size, 0, none⟩), .pointer (some ⟨w.heap.size + 1, 0, none⟩), .pointer (some ⟨V2.heap.size, 0, none⟩), .pointer (some ⟨V2.heap.size + 1, 0, none⟩), .pointer (some ⟨n4, 0, none⟩), undef, undef, .agg #[.int .i64 a.lo, .int .i64 a.hi], .bool true, .bool false, undef, .agg #[.int .i64 (ofI 0).lo, .int .i64 (ofI 0).hi], .agg #[.int .i64 (ofI 65536).lo, .int .i64 (ofI 65536).hi], .agg #[.int .i64 a.lo, .int .i64 a.hi], .agg #[.int .i64 (cosO a).lo, .int .i64 (cosO a).hi], .agg #[.int .i64 a.lo, .int .i64 a.hi], .agg #[.int .i64 (sinO a).lo, .int .i64 (sinO a).hi], undef, undef, undef, undef, undef, undef, undef, undef, undef, undef, undef, undef, undef, undef, undef, undef, undef, undef, undef, undef, undef, undef, undef, undef, undef, undef, undef, undef, undef, undef, undef, undef, undef, undef, undef, undef, undef, undef, undef, undef, undef, undef, undef, undef, undef, undef, undef, undef, undef], []⟩ W := by
      intro W n4 hH h4 l4
      rw [← HX.out]
      refine wpAnyH_ready (rs := [5]) (by kernel_rfl) (by simp) (AllReadyH.cons rfl (fun K hK => ?_) (AllReadyH.nil))
      · go_simp; refine hK.out _ _ ?_ (fun hHeld => ?_); (focus exact below_alloc hH _); rw [HX.out]; exact s2_4_5 (W.alloc (.cells #[.int .i64 0, .int .i64 0] 23)) (n4) (W.heap.size) (below_alloc hH _) (h4.alloc _) l4 (IvAt.zero rfl) hH.size (by have := h4.lt; omega)
    have s2_5 : ∀ (W : World) (n5 : Nat), Below V.heap.size V W → IvAt W n5 zeroI → V.heap.size ≤ n5 → X 3 #[true, true, true, true, false, true, false, false] ⟨#[.int .i64 k, .agg #[.int .i64 a.lo, .int .i64 a.hi], undef, .pointer (some ⟨w.heap.size, 0, none⟩), .pointer (some ⟨w.heap.size + 1, 0, none⟩), .pointer (some ⟨V2.heap.size, 0, none⟩), .pointer (some ⟨V2.heap.size + 1, 0, none⟩), undef, .pointer (some ⟨n5, 0, none⟩), undef, .agg #[.int .i64 a.lo, .int .i64 a.hi], .bool true, .bool false, undef, .agg #[.int .i64 (ofI 0).lo, .int .i64 (ofI 0).hi], .agg #[.int .i64 (ofI 65536).lo, .int .i64 (ofI 65536).hi], .agg #[.int .i64 a.lo, .int .i64 a.hi], .agg #[.int .i64 (cosO a).lo, .int .i64 (cosO a).hi], .agg #[.int .i64 a.lo, .int .i64 a.hi], .agg #[.int .i64 (sinO a).lo, .int .i64 (sinO a).hi], undef, undef, undef, undef, undef, undef, undef, undef, undef, undef, undef, undef, undef, undef, undef, undef, undef, undef, undef, undef, undef, undef, undef, undef, undef, undef, undef, undef, undef, undef, undef, undef, undef, undef, undef, undef, undef, undef, undef, undef, undef, undef, undef, undef, undef, undef, undef, undef, undef], []⟩ W := by
      intro W n5 hH h5 l5
      rw [← HX.out]
      refine wpAnyH_ready (rs := [4]) (by kernel_rfl) (by simp) (AllReadyH.cons rfl (fun K hK => ?_) (AllReadyH.nil))
      · go_simp; refine hK.out _ _ ?_ (fun hHeld => ?_); (focus exact below_alloc hH _); rw [HX.out]; exact s2_4_5 (W.alloc (.cells #[.int .i64 0, .int .i64 0] 23)) (W.heap.size) (n5) (below_alloc hH _) (IvAt.zero rfl) hH.size (h5.alloc _) l5 (by have := h5.lt; omega)
    have s0_4_5 : ∀ (W : World) (n4 : Nat) (n5 : Nat), Below V.heap.size V W → IvAt W n4 zeroI → V.heap.size ≤ n4 → IvAt W n5 zeroI → V.heap.size ≤ n5 → n4 ≠ n5 → X 4 #[true, false, true, false, true, true, false, false] ⟨#[.int .i64 k, .agg #[.int .i64 a.lo, .int .i64 a.hi], undef, .pointer (some ⟨w.heap.size, 0, none⟩), .pointer (some ⟨w.heap.size + 1, 0, none⟩), .pointer (some ⟨V2.heap.size, 0, none⟩), .pointer (some ⟨V2.heap.size + 1, 0, none⟩), .pointer (some ⟨n4, 0, none⟩), .pointer (some ⟨n5, 0, none⟩), undef, .agg #[.int .i64 a.lo, .int .i64 a.hi], .bool true, .bool false, undef, .agg #[.int .i64 (ofI 0).lo, .int .i64 (ofI 0).hi], .agg #[.int .i64 (ofI 65536).lo, .int .i64 (ofI 65536).hi], .agg #[.int .i64 a.lo, .int .i64 a.hi], undef, .agg #[.int .i64 a.lo, .int .i64 a.hi], undef, undef, undef, undef, undef, undef, undef, undef, undef, undef, undef, undef, undef, undef, undef, undef, undef, undef, undef, undef, undef, undef, undef, undef, undef, undef, undef, undef, undef, undef, undef, undef, undef, undef, undef, undef, undef, undef, undef, undef, undef, undef, undef, undef, undef, undef, undef, undef, undef, undef], []⟩ W := by
      intro W n4 n5 hH h4 l4 h5 l5 d4_5
      rw [← HX.out]
      refine wpAnyH_ready (rs := [1]) (by kernel_rfl) (by simp) (AllReadyH.cons rfl (fun K hK => ?_) (AllReadyH.nil))
      · go_simp; (go_at_call 56; refine (CosOver_any _ _).mono ?_; rintro e w' ⟨rfl, hb2⟩); go_wp2_with fail; refine hK.out _ _ ?_ (fun hHeld => ?_); (focus exact below_next hb2 hH); rw [HX.out]; exact s1_4_5 w' n4 n5 (below_next hb2 hH) (h4.below hb2) l4 (h5.below hb2) l5 d4_5
    have s1_4 : ∀ (W : World) (n4 : Nat), Below V.heap.size V W → IvAt W n4 zeroI → V.heap.size ≤ n4 → X 4 #[true, true, true, false, true, false, false, false] ⟨#[.int .i64 k, .agg #[.int .i64 a.lo, .int .i64 a.hi], undef, .pointer (some ⟨w.heap.size, 0, none⟩), .pointer (some ⟨w.heap.size + 1, 0, none⟩), .pointer (some ⟨V2.heap.size, 0, none⟩), .pointer (some ⟨V2.heap.size + 1, 0, none⟩), .pointer (some ⟨n4, 0, none⟩), undef, undef, .agg #[.int .i64 a.lo, .int .i64 a.hi], .bool true, .bool false, undef, .agg #[.int .i64 (ofI 0).lo, .int .i64 (ofI 0).hi], .agg #[.int .i64 (ofI 65536).lo, .int .i64 (ofI 65536).hi], .agg #[.int .i64 a.lo, .int .i64 a.hi], .agg #[.int .i64 (cosO a).lo, .int .i64 (cosO a).hi], .agg #[.int .i64 a.lo, .int .i64 a.hi], undef, undef, undef, undef, undef, undef, undef, undef, undef, undef, undef, undef, undef, undef, undef, undef, undef, undef, undef, undef, undef, undef, undef, undef, undef, undef, undef, undef, undef, undef, undef, undef, undef, undef, undef, undef, undef, undef, undef, undef, undef, undef, undef, undef, undef, undef, undef, undef, undef, undef], []⟩ W := by
      intro W n4 hH h4 l4
      rw [← HX.out]
      refine wpAnyH_ready (rs := [3, 5]) (by kernel_rfl) (by simp) (AllReadyH.cons rfl (fun K hK => ?_) (AllReadyH.cons rfl (fun K hK => ?_) (AllReadyH.nil)))
      · go_simp; (go_at_call 57; refine (SinOver_any _ _).mono ?_; rintro e w' ⟨rfl, hb2⟩); go_wp2_with fail; refine hK.out _ _ ?_ (fun hHeld => ?_); (focus exact below_next hb2 hH); rw [HX.out]; exact s2_4 w' n4 (below_next hb2 hH) (h4.below hb2) l4
      · go_simp; refine hK.out _ _ ?_ (fun hHeld => ?_); (focus exact below_alloc hH _); rw [HX.out]; exact s1_4_5 (W.alloc (.cells #[.int .i64 0, .int .i64 0] 23)) (n4) (W.heap.size) (below_alloc hH _) (h4.alloc _) l4 (IvAt.zero rfl) hH.size (by have := h4.lt; omega)
    have s1_5 : ∀ (W : World) (n5 : Nat), Below V.heap.size V W → IvAt W n5 zeroI → V.heap.size ≤ n5 → X 4 #[true, true, true, false, false, true, false, false] ⟨#[.int .i64 k, .agg #[.int .i64 a.lo, .int .i64 a.hi], undef, .pointer (some ⟨w.heap.size, 0, none⟩), .pointer (some ⟨w.heap.size + 1, 0, none⟩), .pointer (some ⟨V2.heap.size, 0, none⟩), .pointer (some ⟨V2.heap.size + 1, 0, none⟩), undef, .pointer (some ⟨n5, 0, none⟩), undef, .agg #[.int .i64 a.lo, .int .i64 a.hi], .bool true, .bool false, undef, .agg #[.int .i64 (ofI 0).lo, .int .i64 (ofI 0).hi], .agg #[.int .i64 (ofI 65536).lo, .int .i64 (ofI 65536).hi], .agg #[.int .i64 a.lo, .int .i64 a.hi], .agg #[.int .i64 (cosO a).lo, .int .i64 (cosO a).hi], .agg #[.int .i64 a.lo, .int .i64 a.hi], undef, undef, undef, undef, undef, undef, undef, undef, undef, undef, undef, undef, undef, undef, undef, undef, undef, undef, undef, undef, undef, undef, undef, undef, undef, undef, undef, undef, undef, undef, undef, undef, undef, undef, undef, undef, undef, undef, undef, undef, undef, undef, undef, undef, undef, undef, undef, undef, undef, undef], []⟩ W := by
      intro W n5 hH h5 l5
      rw [← HX.out]
      refine wpAnyH_ready (rs := [3, 4]) (by kernel_rfl) (by simp) (AllReadyH.cons rfl (fun K hK => ?_) (AllReadyH.cons rfl (fun K hK => ?_) (AllReadyH.nil)))
      · go_simp; (go_at_call 57; refine (SinOver_any _ _).mono ?_; rintro e w' ⟨rfl, hb2⟩); go_wp2_with fail; refine hK.out _ _ ?_ (fun hHeld => ?_); (focus exact below_next hb2 hH); rw [HX.out]; exact s2_5 w' n5 (below_next hb2 hH) (h5.below hb2) l5
      · go_simp; refine hK.out _ _ ?_ (fun hHeld => ?_); (focus exact below_alloc hH _); rw [HX.out]; exact s1_4_5 (W.alloc (.cells #[.int .i64 0, .int .i64 0] 23)) (W.heap.size) (n5) (below_alloc hH _) (IvAt.zero rfl) hH.size (h5.alloc _) l5 (by have := h5.lt; omega)
    have s2 : ∀ (W : World), Below V.heap.size V W → X 4 #[true, true, true, true, false, false, false, false] ⟨#[.int .i64 k, .agg #[.int .i64 a.lo, .int .i64 a.hi], undef, .pointer (some ⟨w.heap.size, 0, none⟩), .pointer (some ⟨w.heap.size + 1, 0, none⟩), .pointer (some ⟨V2.heap.size, 0, none⟩), .pointer (some ⟨V2.heap.size + 1, 0, none⟩), undef, undef, undef, .agg #[.int .i64 a.lo, .int .i64 a.hi], .bool true, .bool false, undef, .agg #[.int .i64 (ofI 0).lo, .int .i64 (ofI 0).hi], .agg #[.int .i64 (ofI 65536).lo, .int .i64 (ofI 65536).hi], .agg #[.int .i64 a.lo, .int .i64 a.hi], .agg #[.int .i64 (cosO a).lo, .int .i64 (cosO a).hi], .agg #[.int .i64 a.lo, .int .i64 a.hi], .agg #[.int .i64 (sinO a).lo, .int .i64 (sinO a).hi], undef, undef, undef, undef, undef, undef, undef, undef, undef, undef, undef, undef, undef, undef, undef, undef, undef, undef, undef, undef, undef, undef, undef, undef, undef, undef, undef, undef, undef, undef, undef, undef, undef, undef, undef, undef, undef, undef, undef, undef, undef, undef, undef, undef, undef, undef, undef, undef, undef], []⟩ W := by
      intro W hH
      rw [← HX.out]
      refine wpAnyH_ready (rs := [4, 5]) (by kernel_rfl) (by simp) (AllReadyH.cons rfl (fun K hK => ?_) (AllReadyH.cons rfl (fun K hK => ?_) (AllReadyH.nil)))
      · go_simp; refine hK.out _ _ ?_ (fun hHeld => ?_); (focus exact below_alloc hH _); rw [HX.out]; exact s2_4 (W.alloc (.cells #[.int .i64 0, .int .i64 0] 23)) (W.heap.size) (below_alloc hH _) (IvAt.zero rfl) hH.size
      · go_simp; refine hK.out _ _ ?_ (fun hHeld => ?_); (focus exact below_alloc hH _); rw [HX.out]; exact s2_5 (W.alloc (.cells #[.int .i64 0, .int .i64 0] 23)) (W.heap.size) (below_alloc hH _) (IvAt.zero rfl) hH.size
    have s0_4 : ∀ (W : World) (n4 : Nat), Below V.heap.size V W → IvAt W n4 zeroI → V.heap.size ≤ n4 → X 5 #[true, false, true, false, true, false, false, false] ⟨#[.int .i64 k, .agg #[.int .i64 a.lo, .int .i64 a.hi], undef, .pointer (some ⟨w.heap.size, 0, none⟩), .pointer (some ⟨w.heap.size + 1, 0, none⟩), .pointer (some ⟨V2.heap.size, 0, none⟩), .pointer (some ⟨V2.heap.size + 1, 0, none⟩), .pointer (some ⟨n4, 0, none⟩), undef, undef, .agg #[.int .i64 a.lo, .int .i64 a.hi], .bool true, .bool false, undef, .agg #[.int .i64 (ofI 0).lo, .int .i64 (ofI 0).hi], .agg #[.int .i64 (ofI 65536).lo, .int .i64 (ofI 65536).hi], .agg #[.int .i64 a.lo, .int .i64 a.hi], undef, .agg #[.int .i64 a.lo, .int .i64 a.hi], undef, undef, undef, undef, undef, undef, undef, undef, undef, undef, undef, undef, undef, undef, undef, undef, undef, undef, undef, undef, undef, undef, undef, undef, undef, undef, undef, undef, undef, undef, undef, undef, undef, undef, undef, undef, undef, undef, undef, undef, undef, undef, undef, undef, undef, undef, undef, undef, undef, undef], []⟩ W := by
      intro W n4 hH h4 l4
      rw [← HX.out]
      refine wpAnyH_ready (rs := [1, 5]) (by kernel_rfl) (by simp) (AllReadyH.cons rfl (fun K hK => ?_) (AllReadyH.cons rfl (fun K hK => ?_) (AllReadyH.nil)))
      · go_simp; (go_at_call 56; refine (CosOver_any _ _).mono ?_; rintro e w' ⟨rfl, hb2⟩); go_wp2_with fail; refine hK.out _ _ ?_ (fun hHeld => ?_); (focus exact below_next hb2 hH); rw [HX.out]; exact s1_4 w' n4 (below_next hb2 hH) (h4.below hb2) l4
      · go_simp; refine hK.out _ _ ?_ (fun hHeld => ?_); (focus exact below_alloc hH _); rw [HX.out]; exact s0_4_5 (W.alloc (.cells #[.int .i64 0, .int .i64 0] 23)) (n4) (W.heap.size) (below_alloc hH _) (h4.alloc _) l4 (IvAt.zero rfl) hH.size (by have := h4.lt; omega)
    have s0_5 : ∀ (W : World) (n5 : Nat), Below V.heap.size V W → IvAt W n5 zeroI → V.heap.size ≤ n5 → X 5 #[true, false, true, false, false, true, false, false] ⟨#[.int .i64 k, .agg #[.int .i64 a.lo, .int .i64 a.hi], undef, .pointer (some ⟨w.heap.size, 0, none⟩), .pointer (some ⟨w.heap.size + 1, 0, none⟩), .pointer (some ⟨V2.heap.size, 0, none⟩), .pointer (some ⟨V2.heap.size + 1, 0, none⟩), undef, .pointer (some ⟨n5, 0, none⟩), undef, .agg #[.int .i64 a.lo, .int .i64 a.hi], .bool true, .bool false, undef, .agg #[.int .i64 (ofI 0).lo, .int .i64 (ofI 0).hi], .agg #[.int .i64 (ofI 65536).lo, .int .i64 (ofI 65536).hi], .agg #[.int .i64 a.lo, .int .i64 a.hi], undef, .agg #[.int .i64 a.lo, .int .i64 a.hi], undef, undef, undef, undef, undef, undef, undef, undef, undef, undef, undef, undef, undef, undef, undef, undef, undef, undef, undef, undef, undef, undef, undef, undef, undef, undef, undef, undef, undef, undef, undef, undef, undef, undef, undef, undef, undef, undef, undef, undef, undef, undef, undef, undef, undef, undef, undef, undef, undef, undef], []⟩ W := by
      intro W n5 hH h5 l5
      rw [← HX.out]
      refine wpAnyH_ready (rs := [1, 4]) (by kernel_rfl) (by simp) (AllReadyH.cons rfl (fun K hK => ?_) (AllReadyH.cons rfl (fun K hK => ?_) (AllReadyH.nil)))
      · go_simp; (go_at_call 56; refine (CosOver_any _ _).mono ?_; rintro e w' ⟨rfl, hb2⟩); go_wp2_with fail; refine hK.out _ _ ?_ (fun hHeld => ?_); (focus exact below_next hb2 hH); rw [HX.out]; exact s1_5 w' n5 (below_next hb2 hH) (h5.below hb2) l5
      · go_simp; refine hK.out _ _ ?_ (fun hHeld => ?_); (focus exact below_alloc hH _); rw [HX.out]; exact s0_4_5 (W.alloc (.cells #[.int .i64 0, .int .i64 0] 23)) (W.heap.size) (n5) (below_alloc hH _) (IvAt.zero rfl) hH.size (h5.alloc _) l5 (by have := h5.lt; omega)
    have s1 : ∀ (W : World), Below V.heap.size V W → X 5 #[true, true, true, false, false, false, false, false] ⟨#[.int .i64 k, .agg #[.int .i64 a.lo, .int .i64 a.hi], undef, .pointer (some ⟨w.heap.size, 0, none⟩), .pointer (some ⟨w.heap.size + 1, 0, none⟩), .pointer (some ⟨V2.heap.size, 0, none⟩), .pointer (some ⟨V2.heap.size + 1, 0, none⟩), undef, undef, undef, .agg #[.int .i64 a.lo, .int .i64 a.hi], .bool true, .bool false, undef, .agg #[.int .i64 (ofI 0).lo, .int .i64 (ofI 0).hi], .agg #[.int .i64 (ofI 65536).lo, .int .i64 (ofI 65536).hi], .agg #[.int .i64 a.lo, .int .i64 a.hi], .agg #[.int .i64 (cosO a).lo, .int .i64 (cosO a).hi], .agg #[.int .i64 a.lo, .int .i64 a.hi], undef, undef, undef, undef, undef, undef, undef, undef, undef, undef, undef, undef, undef, undef, undef, undef, undef, undef, undef, undef, undef, undef, undef, undef, undef, undef, undef, undef, undef, undef, undef, undef, undef, undef, undef, undef, undef, undef, undef, undef, undef, undef, undef, undef, undef, undef, undef, undef, undef, undef], []⟩ W := by
      intro W hH
      rw [← HX.out]
      refine wpAnyH_ready (rs := [3, 4, 5]) (by kernel_rfl) (by simp) (AllReadyH.cons rfl (fun K hK => ?_) (AllReadyH.cons rfl (fun K hK => ?_) (AllReadyH.cons rfl (fun K hK => ?_) (AllReadyH.nil))))
      · go_simp; (go_at_call 57; refine (SinOver_any _ _).mono ?_; rintro e w' ⟨rfl, hb2⟩); go_wp2_with fail; refine hK.out _ _ ?_ (fun hHeld => ?_); (focus exact below_next hb2 hH); rw [HX.out]; exact s2 w' (below_next hb2 hH)
      · go_simp; refine hK.out _ _ ?_ (fun hHeld => ?_); (focus exact below_alloc hH _); rw [HX.out]; exact s1_4 (W.alloc (.cells #[.int .i64 0, .int .i64 0] 23)) (W.heap.size) (below_alloc hH _) (IvAt.zero rfl) hH.size
      · go_simp; refine hK.out _ _ ?_ (fun hHeld => ?_); (focus exact below_alloc hH _); rw [HX.out]; exact s1_5 (W.alloc (.cells #[.int .i64 0, .int .i64 0] 23)) (W.heap.size) (below_alloc hH _) (IvAt.zero rfl) hH.size
    have s0 : ∀ (W : World), Below V.heap.size V W → X 6 #[true, false, true, false, false, false, false, false] ⟨#[.int .i64 k, .agg #[.int .i64 a.lo, .int .i64 a.hi], undef, .pointer (some ⟨w.heap.size, 0, none⟩), .pointer (some ⟨w.heap.size + 1, 0, none⟩), .pointer (some ⟨V2.heap.size, 0, none⟩), .pointer (some ⟨V2.heap.size + 1, 0, none⟩), undef, undef, undef, .agg #[.int .i64 a.lo, .int .i64 a.hi], .bool true, .bool false, undef, .agg #[.int .i64 (ofI 0).lo, .int .i64 (ofI 0).hi], .agg #[.int .i64 (ofI 65536).lo, .int .i64 (ofI 65536).hi], .agg #[.int .i64 a.lo, .int .i64 a.hi], undef, .agg #[.int .i64 a.lo, .int .i64 a.hi], undef, undef, undef, undef, undef, undef, undef, undef, undef, undef, undef, undef, undef, undef, undef, undef, undef, undef, undef, undef, undef, undef, undef, undef, undef, undef, undef, undef, undef, undef, undef, undef, undef, undef, undef, undef, undef, undef, undef, undef, undef, undef, undef, undef, undef, undef, undef, undef, undef, undef], []⟩ W := by
      intro W hH
      rw [← HX.out]
      refine wpAnyH_ready (rs := [1, 4, 5]) (by kernel_rfl) (by simp) (AllReadyH.cons rfl (fun K hK => ?_) (AllReadyH.cons rfl (fun K hK => ?_) (AllReadyH.cons rfl (fun K hK => ?_) (AllReadyH.nil))))
      · go_simp; (go_at_call 56; refine (CosOver_any _ _).mono ?_; rintro e w' ⟨rfl, hb2⟩); go_wp2_with fail; refine hK.out _ _ ?_ (fun hHeld => ?_); (focus exact below_next hb2 hH); rw [HX.out]; exact s1 w' (below_next hb2 hH)
      · go_simp; refine hK.out _ _ ?_ (fun hHeld => ?_); (focus exact below_alloc hH _); rw [HX.out]; exact s0_4 (W.alloc (.cells #[.int .i64 0, .int .i64 0] 23)) (W.heap.size) (below_alloc hH _) (IvAt.zero rfl) hH.size
      · go_simp; refine hK.out _ _ ?_ (fun hHeld => ?_); (focus exact below_alloc hH _); rw [HX.out]; exact s0_5 (W.alloc (.cells #[.int .i64 0, .int .i64 0] 23)) (W.heap.size) (below_alloc hH _) (IvAt.zero rfl) hH.size
    change X 6 #[true, false, true, false, false, false, false, false] _ _
    exact s0 V.drew hHeld
  case rest =>
    obtain ⟨n6, n7, rfl, rfl, hW, h6, h7⟩ := hcut
    have BV2 := Lib.hid (below_next hW BV.out)
    have hR2 := Lib.hid (hR.out.below hW)
    have K4 := Lib.hid (hz.out.below hW)
    have K5 := Lib.hid (ho.out.below hW)
    clear g0 g1 hA hR BV hz ho
    have s7 := h7.c0
    have s7' := h7.c1
    have K6 := Lib.hid h6
    have K7 := Lib.hid h7
    clear h6 h7
    go_wp2_with fail
    refine (Neg_any (sinO a) _).mono ?_
    rintro e w4 ⟨rfl, hb4⟩
    clear s7 s7'
    obtain ⟨U, hU⟩ : ∃ U : World, U = w4.alloc (.cells #[.int .i64 (negI (sinO a)).lo, .int .i64 (negI (sinO a)).hi] 23) := ⟨_, rfl⟩
    have j4 := Lib.hid (show IvAt U V2.heap.size (ofI 0) from by rw [hU]; exact (K4.out.below hb4).alloc _)
    have j5 := Lib.hid (show IvAt U (V2.heap.size + 1) (ofI 65536) from by rw [hU]; exact (K5.out.below hb4).alloc _)
    have j6 := Lib.hid (show IvAt U n6 (cosO a) from by rw [hU]; exact (K6.out.below hb4).alloc _)
    have j7 := Lib.hid (show IvAt U n7 (sinO a) from by rw [hU]; exact (K7.out.below hb4).alloc _)
    have j8 := Lib.hid (show IvAt U w4.heap.size (negI (sinO a)) from by rw [hU]; exact IvAt.new _ _)
    have jR := Lib.hid (show MatAt U (w.heap.size + 1) zeroM from by rw [hU]; exact (hR2.out.below hb4).alloc _)
    have jB := Lib.hid (show Below w.heap.size w U from by rw [hU]; exact below_alloc (below_next hb4 BV2.out) _)
    have c0 : U.cell? ⟨V2.heap.size + 1, 0, none⟩ = _ := j5.out.c0
    have c1 : U.cell? ⟨V2.heap.size + 1, 1, none⟩ = _ := j5.out.c1
    have c2 : U.cell? ⟨n6, 0, none⟩ = _ := j6.out.c0
    have c3 : U.cell? ⟨n6, 1, none⟩ = _ := j6.out.c1
    have c4 : U.cell? ⟨n7, 0, none⟩ = _ := j7.out.c0
    have c5 : U.cell? ⟨n7, 1, none⟩ = _ := j7.out.c1
    have c6 : U.cell? ⟨w4.heap.size, 0, none⟩ = _ := j8.out.c0
    have c7 : U.cell? ⟨w4.heap.size, 1, none⟩ = _ := j8.out.c1
    have c8 : U.cell? ⟨V2.heap.size, 0, none⟩ = _ := j4.out.c0
    have c9 : U.cell? ⟨V2.heap.size, 1, none⟩ = _ := j4.out.c1
    by_cases k0 : k = 0
    · subst k0
      rw [hU] at c0 c1 c2 c3 c4 c5 c6 c7 c8 c9
      have jM := jR.out
      rw [hU] at jM
      go_wp2_with (first | (refine wpList_store_row rfl 26 _ _ rfl (w.heap.size + 1) (matC (⟨⟨ofI 65536, ofI 0, ofI 0⟩, ⟨ofI 0, cosO a, negI (sinO a)⟩, ⟨ofI 0, sinO a, cosO a⟩⟩)) rfl rfl 26 (matC zeroM) jM info_mat rfl (mat_one _) ?_))
      (try simp only [Exit.inBlock, Exit.then])
      have hY : y = ⟨⟨ofI 65536, ofI 0, ofI 0⟩, ⟨ofI 0, cosO a, negI (sinO a)⟩, ⟨ofI 0, sinO a, cosO a⟩⟩ := by rw [← Hy.out]; rfl
      refine bodyPost_ret (v := .agg (matC (⟨⟨ofI 65536, ofI 0, ofI 0⟩, ⟨ofI 0, cosO a, negI (sinO a)⟩, ⟨ofI 0, sinO a, cosO a⟩⟩))) ?_ rfl ⟨by rw [hY]; rfl, setRow_below (by rw [← hU]; exact jB.out) (by omega) _⟩
      exact results_cell_row rfl _ _ (w.heap.size + 1) 26 _ (0, 0) _ rfl (jM.put _) under_mat rfl info_mat
    · by_cases k1 : k = 1
      · subst k1
        rw [hU] at c0 c1 c2 c3 c4 c5 c6 c7 c8 c9
        have jM := jR.out
        rw [hU] at jM
        go_wp2_with (first | (refine wpList_store_row rfl 26 _ _ rfl (w.heap.size + 1) (matC (⟨⟨cosO a, ofI 0, sinO a⟩, ⟨ofI 0, ofI 65536, ofI 0⟩, ⟨negI (sinO a), ofI 0, cosO a⟩⟩)) rfl rfl 26 (matC zeroM) jM info_mat rfl (mat_one _) ?_))
        (try simp only [Exit.inBlock, Exit.then])
        have hY : y = ⟨⟨cosO a, ofI 0, sinO a⟩, ⟨ofI 0, ofI 65536, ofI 0⟩, ⟨negI (sinO a), ofI 0, cosO a⟩⟩ := by rw [← Hy.out]; rfl
        refine bodyPost_ret (v := .agg (matC (⟨⟨cosO a, ofI 0, sinO a⟩, ⟨ofI 0, ofI 65536, ofI 0⟩, ⟨negI (sinO a), ofI 0, cosO a⟩⟩))) ?_ rfl ⟨by rw [hY]; rfl, setRow_below (by rw [← hU]; exact jB.out) (by omega) _⟩
        exact results_cell_row rfl _ _ (w.heap.size + 1) 26 _ (0, 0) _ rfl (jM.put _) under_mat rfl info_mat
      · by_cases k2 : k = 2
        · subst k2
          rw [hU] at c0 c1 c2 c3 c4 c5 c6 c7 c8 c9
          have jM := jR.out
          rw [hU] at jM
          go_wp2_with (first | (refine wpList_store_row rfl 26 _ _ rfl (w.heap.size + 1) (matC (⟨⟨cosO a, negI (sinO a), ofI 0⟩, ⟨sinO a, cosO a, ofI 0⟩, ⟨ofI 0, ofI 0, ofI 65536⟩⟩)) rfl rfl 26 (matC zeroM) jM info_mat rfl (mat_one _) ?_))
          (try simp only [Exit.inBlock, Exit.then])
          have hY : y = ⟨⟨cosO a, negI (sinO a), ofI 0⟩, ⟨sinO a, cosO a, ofI 0⟩, ⟨ofI 0, ofI 0, ofI 65536⟩⟩ := by rw [← Hy.out]; rfl
          refine bodyPost_ret (v := .agg (matC (⟨⟨cosO a, negI (sinO a), ofI 0⟩, ⟨sinO a, cosO a, ofI 0⟩, ⟨ofI 0, ofI 0, ofI 65536⟩⟩))) ?_ rfl ⟨by rw [hY]; rfl, setRow_below (by rw [← hU]; exact jB.out) (by omega) _⟩
          exact results_cell_row rfl _ _ (w.heap.size + 1) 26 _ (0, 0) _ rfl (jM.put _) under_mat rfl info_mat
        · rw [hU] at c0 c1 c2 c3 c4 c5 c6 c7 c8 c9
          have jM := jR.out
          rw [hU] at jM
          go_wp2_with (first | (refine wpList_store_row rfl 26 _ _ rfl (w.heap.size + 1) (matC (zeroM)) rfl rfl 26 (matC zeroM) jM info_mat rfl (mat_one _) ?_))
          (try simp only [Exit.inBlock, Exit.then])
          have hY : y = zeroM := by rw [← Hy.out]; unfold rotM; rw [if_neg k0, if_neg k1, if_neg k2]
          refine bodyPost_ret (v := .agg (matC (zeroM))) ?_ rfl ⟨by rw [hY]; rfl, setRow_below (by rw [← hU]; exact jB.out) (by omega) _⟩
          exact results_cell_row rfl _ _ (w.heap.size + 1) 26 _ (0, 0) _ rfl (jM.put _) under_mat rfl info_mat
set_option linter.unusedSimpArgs false in
set_option linter.unusedVariables false in
set_option maxRecDepth 100000 in
set_option maxHeartbeats 25600000 in
theorem mTurn_any (k : Int) (a : Iv) (w : World) :
    Calls Try.prog 36 #[ .int .i64 k, .agg #[.int .i64 a.lo, .int .i64 a.hi] ] w fun e w' => e = .returned (.agg #[.int .i64 ((trnM k a).x).x.lo, .int .i64 ((trnM k a).x).x.hi, .int .i64 ((trnM k a).x).y.lo, .int .i64 ((trnM k a).x).y.hi, .int .i64 ((trnM k a).x).z.lo, .int .i64 ((trnM k a).x).z.hi, .int .i64 ((trnM k a).y).x.lo, .int .i64 ((trnM k a).y).x.hi, .int .i64 ((trnM k a).y).y.lo, .int .i64 ((trnM k a).y).y.hi, .int .i64 ((trnM k a).y).z.lo, .int .i64 ((trnM k a).y).z.hi, .int .i64 ((trnM k a).z).x.lo, .int .i64 ((trnM k a).z).x.hi, .int .i64 ((trnM k a).z).y.lo, .int .i64 ((trnM k a).z).y.hi, .int .i64 ((trnM k a).z).z.lo, .int .i64 ((trnM k a).z).z.hi]) ∧ Below w.heap.size w w' := by
  by_cases hv : Valid a
  · exact mTurn_valid k a _ w (by unfold trnM; rw [if_pos hv]) hv
  · have e0 := validB_false hv
    have hY : trnM k a = zeroM := by unfold trnM; rw [if_neg hv]
    rw [hY]
    have R0 := Lib.hid (show MatAt ((w.alloc (.cells #[.int .i64 a.lo, .int .i64 a.hi] 23)).alloc (.cells #[.int .i64 0, .int .i64 0, .int .i64 0, .int .i64 0, .int .i64 0, .int .i64 0, .int .i64 0, .int .i64 0, .int .i64 0, .int .i64 0, .int .i64 0, .int .i64 0, .int .i64 0, .int .i64 0, .int .i64 0, .int .i64 0, .int .i64 0, .int .i64 0] 26)) (w.heap.size + 1) zeroM from MatAt.at_new (v := zeroM) (by simp))
    have B0 := Lib.hid (show Below w.heap.size w ((w.alloc (.cells #[.int .i64 a.lo, .int .i64 a.hi] 23)).alloc (.cells #[.int .i64 0, .int .i64 0, .int .i64 0, .int .i64 0, .int .i64 0, .int .i64 0, .int .i64 0, .int .i64 0, .int .i64 0, .int .i64 0, .int .i64 0, .int .i64 0, .int .i64 0, .int .i64 0, .int .i64 0, .int .i64 0, .int .i64 0, .int .i64 0] 26)) from below_alloc (below_alloc (Below.refl _ _) _) _)
    go_enter Try.func36, Try.ntmps36
    go_wp2_with fail
    refine (Valid_any _ _).mono ?_
    rintro e V ⟨rfl, hb1⟩
    have hR := R0.out.below hb1
    go_wp2_with (first | (refine wpList_store_row rfl 26 _ _ rfl (w.heap.size + 1) (matC zeroM) rfl rfl 26 (matC zeroM) hR info_mat rfl (mat_one _) ?_))
    (try simp only [Exit.inBlock, Exit.then])
    refine bodyPost_ret (v := .agg (matC zeroM)) ?_ rfl ⟨rfl, setRow_below (below_next hb1 B0.out) (by omega) _⟩
    exact results_cell_row rfl _ _ (w.heap.size + 1) 26 _ (0, 0) _ rfl (hR.put _) under_mat rfl info_mat
end Go.Proofs.Ytdplgiccpjlelaa
