/- Proved: the reference's CheckScene accepts what the makers make. Conditions: as each theorem states. -/
import Derived.Test.YtpaiapcnoifpmaaDoorSy9
namespace Go.Proofs.YtpaiapcnoifpmaaDoor
open Go.RowKit

/-- A scene that the makers made. -/
structure SceneM (W : World) (vj vm vs vk : Value) (js : List JointD) (ms : List MassD) (ss : List ShpD) (ks : List SkD) : Prop where
  rob : RobM W vj vm js ms
  rs : RdC W vs ss.length 3 (scells ss)
  rk : RdC W vk ks.length 2 (kcells ks)
  rp : ∀ k (h : k < ss.length), RdC W ss[k].v ss[k].ps.length 3 (pcells ss[k].ps)
  s6 : ss.length ≤ 6
  k1 : ks.length ≤ 1
  mS : ∀ k (h : k < ss.length), MadeS js.length ss[k]
  mK : ∀ k (h : k < ks.length), MadeK js.length ks[k]
theorem SceneM.below {W V : World} {vj vm vs vk : Value} {js : List JointD} {ms : List MassD} {ss : List ShpD} {ks : List SkD} {B : Nat} (h : SceneM W vj vm vs vk js ms ss ks) (hb : Below B W V) (hB : W.heap.size ≤ B) : SceneM V vj vm vs vk js ms ss ks :=
  ⟨h.rob.below hb hB, h.rs.below hb hB, h.rk.below hb hB, fun k hk => (h.rp k hk).below hb hB, h.s6, h.k1, h.mS, h.mK⟩
theorem scene_made {w w' : World} {e : Ending} (h : SceneP w e w') : ∃ vj vm vs vk js ms ss ks, e = .returned (.agg #[vj, vm, vs, vk]) ∧ Below w.heap.size w w' ∧ SceneM w' vj vm vs vk js ms ss ks := by
  obtain ⟨js, ms, ss, ks, vj, vm, vs, vk, he, hb, o1, o2, o3, o4, o5, l1, mj, l2, mm, l3, mS, l4, mK⟩ := h
  exact ⟨vj, vm, vs, vk, js, ms, ss, ks, he, hb, ⟨rdC_own o1, rdC_own o2, l1.1, l1.2, l2, mj, mm⟩, rdC_own o3, rdC_own o4, fun k hk => rdC_own (o5 _ (List.getElem_mem _)), l3, l4, mS, mK⟩
theorem ScAt.c1 {W : World} {q : Nat} {vj vm vs vk : Value} (h : ScAt W q vj vm vs vk) : W.cell? ⟨q, 1, none⟩ = some vm := cell_of_row W q 1 _ _ _ h
theorem ScAt.below {W V : World} {b B : Nat} {vj vm vs vk : Value} (h : ScAt W b vj vm vs vk) (hb : Below B W V) (hB : b < B) : ScAt V b vj vm vs vk := (hb.block b hB).trans h
theorem RdC.shape {W : World} {v : Value} {ss : List ShpD} (h : RdC W v ss.length 3 (scells ss)) : ∃ (A : Option Addr) (c : Nat), v = .slice A ss.length c ∧ ss.length ≤ c ∧
    ∀ (k : Nat) (hk : k < ss.length), ∃ g, A = some ⟨g, 0, none⟩ ∧ g < W.heap.size ∧ W.cell? ⟨g, k * 3, none⟩ = some (.int .i64 ss[k].link) ∧ W.cell? ⟨g, k * 3 + 1, none⟩ = some (.int .i64 ss[k].radius) ∧ W.cell? ⟨g, k * 3 + 2, none⟩ = some ss[k].v := by
  obtain ⟨A, c, hv, hc, hat⟩ := RdC.at h (fun j => by rfl) (by decide)
  refine ⟨A, c, hv, hc, fun k hk => ?_⟩
  obtain ⟨g, hA, hg, hi⟩ := hat k hk
  exact ⟨g, hA, hg, hi 0 (by decide), hi 1 (by decide), hi 2 (by decide)⟩
theorem RdC.point {W : World} {v : Value} {ps : List PntD} (h : RdC W v ps.length 3 (pcells ps)) : ∃ (A : Option Addr) (c : Nat), v = .slice A ps.length c ∧ ps.length ≤ c ∧
    ∀ (k : Nat) (hk : k < ps.length), ∃ g, A = some ⟨g, 0, none⟩ ∧ g < W.heap.size ∧ W.cell? ⟨g, k * 3, none⟩ = some (.int .i64 ps[k].x) ∧ W.cell? ⟨g, k * 3 + 1, none⟩ = some (.int .i64 ps[k].y) ∧ W.cell? ⟨g, k * 3 + 2, none⟩ = some (.int .i64 ps[k].z) := by
  obtain ⟨A, c, hv, hc, hat⟩ := RdC.at h (fun j => by rfl) (by decide)
  refine ⟨A, c, hv, hc, fun k hk => ?_⟩
  obtain ⟨g, hA, hg, hi⟩ := hat k hk
  exact ⟨g, hA, hg, hi 0 (by decide), hi 1 (by decide), hi 2 (by decide)⟩
theorem RdC.skip {W : World} {v : Value} {ks : List SkD} (h : RdC W v ks.length 2 (kcells ks)) : ∃ (A : Option Addr) (c : Nat), v = .slice A ks.length c ∧ ks.length ≤ c ∧
    ∀ (k : Nat) (hk : k < ks.length), ∃ g, A = some ⟨g, 0, none⟩ ∧ g < W.heap.size ∧ W.cell? ⟨g, k * 2, none⟩ = some (.int .i64 ks[k].a) ∧ W.cell? ⟨g, k * 2 + 1, none⟩ = some (.int .i64 ks[k].b) := by
  obtain ⟨A, c, hv, hc, hat⟩ := RdC.at h (fun j => by rfl) (by decide)
  refine ⟨A, c, hv, hc, fun k hk => ?_⟩
  obtain ⟨g, hA, hg, hi⟩ := hat k hk
  exact ⟨g, hA, hg, hi 0 (by decide), hi 1 (by decide)⟩
/-- The block of a shape. -/
def ShB (W : World) (b : Nat) (s : ShpD) : Prop := W.heap[b]? = some (.cells #[.int .i64 s.link, .int .i64 s.radius, s.v] 88 (0, 0))
theorem ShB.below {W V : World} {b B : Nat} {s : ShpD} (h : ShB W b s) (hb : Below B W V) (hB : b < B) : ShB V b s := (hb.block b hB).trans h
theorem ShB.cells {W : World} {b : Nat} {s : ShpD} (h : ShB W b s) : W.cell? ⟨b, 0, none⟩ = some (.int .i64 s.link) ∧ W.cell? ⟨b, 1, none⟩ = some (.int .i64 s.radius) ∧ W.cell? ⟨b, 2, none⟩ = some s.v := ⟨cell_of_row W b 0 _ _ _ h, cell_of_row W b 1 _ _ _ h, cell_of_row W b 2 _ _ _ h⟩
theorem ShB.lt {W : World} {b : Nat} {s : ShpD} (h : ShB W b s) : b < W.heap.size := lt_of_block h
set_option linter.unusedSimpArgs false in
set_option linter.unusedVariables false in
set_option maxRecDepth 100000 in
set_option maxHeartbeats 6400000 in
theorem rCheckScene_any (js : List JointD) (ms : List MassD) (ss : List ShpD) (ks : List SkD) (vj vm vs vk : Value) (w : World) (hr : SceneM w vj vm vs vk js ms ss ks) :
    Calls Tryd.prog 38 #[ .agg #[vj, vm, vs, vk] ] w fun e w' => e = .returned (.int .i64 0) ∧ Below w.heap.size w w' := by
  have HR := Lib.hid hr
  obtain ⟨Aj, cj, rfl, hcj, _⟩ := hr.rob.rj.joint
  obtain ⟨Am, cm, rfl, hcm, _⟩ := hr.rob.rm.mass
  obtain ⟨As, cs, rfl, hcs, _⟩ := hr.rs.shape
  obtain ⟨Ak, ck, rfl, hck, _⟩ := hr.rk.skip
  have l1 := hr.rob.l1
  have l3 := hr.rob.l3
  have s6 := hr.s6
  have k1 := hr.k1
  clear hr
  have R0 := Lib.hid (ScAt.at_new (V := w) (vj := .slice Aj js.length cj) (vm := .slice Am ms.length cm) (vs := .slice As ss.length cs) (vk := .slice Ak ks.length ck) rfl)
  have B0 := Lib.hid ((Below.refl w.heap.size w).alloc (Nat.le_refl _) (.cells #[.slice Aj js.length cj, .slice Am ms.length cm, .slice As ss.length cs, .slice Ak ks.length ck] 38))
  go_enter Tryd.func38, Tryd.ntmps38
  go_wp2_with fail
  refine (rCheckRobot_any js ms _ _ _ (HR.out.rob.below B0.out (Nat.le_refl _))).mono ?_
  rintro e w1 ⟨rfl, hb⟩
  have hR1 := R0.out.below hb (by simp)
  have B1 := Lib.hid (bl_next hb B0.out)
  have r2 := hR1.c2
  have R1 := Lib.hid hR1
  clear hb hR1 R0 B0
  go_wp2_with fail
  clear r2
  go_loopw [4] (fun i wr => ∃ k : Nat, k ≤ ss.length ∧ i = .int .i64 k ∧ ScAt wr w.heap.size (.slice Aj js.length cj) (.slice Am ms.length cm) (.slice As ss.length cs) (.slice Ak ks.length ck) ∧ Below w.heap.size w wr) (fun i _ => ss.length - (intOf i).toNat)
  case atStart => exact ⟨0, Nat.zero_le _, rfl, R1.out, B1.out⟩
  case round =>
    obtain ⟨k, hk, rfl, hR, hB⟩ := hrel
    clear R1 B1
    have RR := Lib.hid hR
    have BR := Lib.hid hB
    have r0 := hR.c0
    have r1 := hR.c1
    have r2 := hR.c2
    have r3 := hR.c3
    have hq := hR.lt
    by_cases hlt : k < ss.length
    · obtain ⟨_, _, ea, _, hm⟩ := (HR.out.rs.below hB (Nat.le_refl _)).shape
      injection ea with ea _ ec
      subst ea ec
      obtain ⟨g, rfl, hg, c0, c1, c2⟩ := hm k hlt
      have hms := HR.out.mS k hlt
      have hrp := HR.out.rp k hlt
      obtain ⟨x, hx⟩ : ∃ x, ss[k] = x := ⟨_, rfl⟩
      rw [hx] at hms hrp c0 c1 c2
      obtain ⟨⟨m1, m2⟩, ⟨m3, m4⟩, ⟨m5, m6⟩, hpp⟩ := hms
      have HPP := Lib.hid hpp
      have HRP := Lib.hid hrp
      obtain ⟨Ap, cp, hxv, _, _⟩ := hrp.point
      rw [hxv] at c2
      have HXV := Lib.hid hxv
      have RA := Lib.hid ((Below.heap_alloc wr (.cells #[.int .i64 x.link, .int .i64 x.radius, .slice Ap x.ps.length cp] 88) _ hq).trans hR)
      have BA := Lib.hid (hB.alloc hB.size (.cells #[.int .i64 x.link, .int .i64 x.radius, .slice Ap x.ps.length cp] 88))
      have SA := Lib.hid (show ShB (wr.alloc (.cells #[.int .i64 x.link, .int .i64 x.radius, .slice Ap x.ps.length cp] 88)) wr.heap.size x from by unfold ShB; rw [hxv]; exact heap_alloc_new _ _)
      clear hR hB hm hx hpp hrp hxv
      go_wp2_with fail
      refine (rIsLink_any _ _ _ _ x.link _ (by omega) (by omega) (by omega)).mono ?_
      rintro e w2 ⟨rfl, hb⟩
      have R2 := Lib.hid (ScAt.below RA.out hb (by simp; omega))
      have B2 := Lib.hid (bl_next hb BA.out)
      have S2 := Lib.hid (SA.out.below hb (by simp))
      obtain ⟨d0, d1, d2⟩ := S2.out.cells
      rw [HXV.out] at d2
      clear hb r0 r1 r2 r3 c0 c1 c2 RA BA SA RR BR
      go_wp2_with fail
      refine (rBetween_any x.radius 1 1048576 _).mono ?_
      rintro e w3 ⟨rfl, rfl⟩
      rw [show (decide (1 ≤ x.radius) && decide (x.radius ≤ 1048576)) = true by simp; omega]
      go_wp2_with fail
      clear d0 d1 d2
      obtain ⟨wo, hwo⟩ : ∃ wo, wo = wr := ⟨_, rfl⟩
      subst hwo
      go_loopw [6] (fun i wr => ∃ k : Nat, k ≤ x.ps.length ∧ i = .int .i64 k ∧ ScAt wr w.heap.size (.slice Aj js.length cj) (.slice Am ms.length cm) (.slice (some ⟨g, 0, none⟩) ss.length cs) (.slice Ak ks.length ck) ∧ Below w.heap.size w wr ∧ ShB wr wo.heap.size x) (fun i _ => x.ps.length - (intOf i).toNat)
      case atStart => exact ⟨0, Nat.zero_le _, rfl, R2.out, B2.out, S2.out⟩
      case round =>
        obtain ⟨k', hk', rfl, hR, hB, hS⟩ := hrel
        clear R2 B2 S2
        have RR := Lib.hid hR
        have BR := Lib.hid hB
        have SR := Lib.hid hS
        have hq2 := hR.lt
        have hq3 := hS.lt
        obtain ⟨d0, d1, d2⟩ := hS.cells
        rw [HXV.out] at d2
        by_cases hlp : k' < x.ps.length
        · obtain ⟨_, _, ea, _, hm⟩ := (HRP.out.below hB (Nat.le_refl _)).point
          rw [HXV.out] at ea
          injection ea with ea _ ec
          subst ea ec
          obtain ⟨g2, rfl, hg2, p0, p1, p2⟩ := hm k' hlp
          have hpp := HPP.out k' hlp
          obtain ⟨y, hy⟩ : ∃ y, x.ps[k'] = y := ⟨_, rfl⟩
          rw [hy] at hpp p0 p1 p2
          obtain ⟨h1, h2, h3⟩ := hpp
          clear hR hB hS hm hy d0 d1
          go_wp2_with fail
          refine (rNear_any ⟨y.x, y.y, y.z⟩ 4194304 _ (by decide) (by decide) (by dsimp only; omega) (by dsimp only; omega) (by dsimp only; omega)).mono ?_
          rintro e w3 ⟨rfl, hb⟩
          have R3 := Lib.hid (RR.out.below hb hq2)
          have B3 := Lib.hid (bl_next hb BR.out)
          have S3 := Lib.hid (SR.out.below hb hq3)
          clear hb d2 p0 p1 p2
          go_wp2_with fail
          go_roundw
          case rel => exact ⟨k' + 1, by omega, by go_num, R3.out, B3.out, S3.out⟩
          case measure => simp [intOf]; omega
        · clear hR hB hS d0 d1
          go_wp2_with fail
          go_roundw
          case rel => exact ⟨k + 1, by omega, by go_num, RR.out, BR.out⟩
          case measure => simp [intOf]; omega
    · clear hR hB r0 r1
      go_wp2_with fail
      clear r2 r3
      obtain ⟨wo, hwo⟩ : ∃ wo, wo = wr := ⟨_, rfl⟩
      subst hwo
      go_loopw [7] (fun i wr => ∃ k : Nat, k ≤ ks.length ∧ i = .int .i64 k ∧ ScAt wr w.heap.size (.slice Aj js.length cj) (.slice Am ms.length cm) (.slice As ss.length cs) (.slice Ak ks.length ck) ∧ Below w.heap.size w wr) (fun i _ => ks.length - (intOf i).toNat)
      case atStart => exact ⟨0, Nat.zero_le _, rfl, RR.out, BR.out⟩
      case round =>
        obtain ⟨k', hk', rfl, hR, hB⟩ := hrel
        clear RR BR
        have RR := Lib.hid hR
        have BR := Lib.hid hB
        have r3 := hR.c3
        have hq2 := hR.lt
        by_cases hlk : k' < ks.length
        · obtain ⟨_, _, ea, _, hm⟩ := (HR.out.rk.below hB (Nat.le_refl _)).skip
          injection ea with ea _ ec
          subst ea ec
          obtain ⟨g2, rfl, hg2, p0, p1⟩ := hm k' hlk
          obtain ⟨y1, y2, y3⟩ := HR.out.mK k' hlk
          obtain ⟨y, hy⟩ : ∃ y, ks[k'] = y := ⟨_, rfl⟩
          rw [hy] at y1 y2 y3 p0 p1
          rw [y1] at p0
          have q0 : ∀ w3, Below wr.heap.size wr w3 → w3.cell? ⟨w.heap.size, 0, none⟩ = some (.slice Aj js.length cj) := fun w3 h => (h.cell (p := ⟨w.heap.size, 0, none⟩) hq2).trans hR.c0
          have q1 : ∀ w3, Below wr.heap.size wr w3 → w3.cell? ⟨w.heap.size, 1, none⟩ = some (.slice Am ms.length cm) := fun w3 h => (h.cell (p := ⟨w.heap.size, 1, none⟩) hq2).trans hR.c1
          have q3 : ∀ w3, Below wr.heap.size wr w3 → w3.cell? ⟨w.heap.size, 3, none⟩ = some (.slice (some ⟨g2, 0, none⟩) ks.length ck) := fun w3 h => (h.cell (p := ⟨w.heap.size, 3, none⟩) hq2).trans hR.c3
          have q4 : ∀ w3, Below wr.heap.size wr w3 → w3.cell? ⟨g2, k' * 2, none⟩ = some (.int .i64 (-1)) := fun w3 h => (h.cell (p := ⟨g2, k' * 2, none⟩) hg2).trans p0
          have q5 : ∀ w3, Below wr.heap.size wr w3 → w3.cell? ⟨g2, k' * 2 + 1, none⟩ = some (.int .i64 y.b) := fun w3 h => (h.cell (p := ⟨g2, k' * 2 + 1, none⟩) hg2).trans p1
          clear hR hB hm hy y1 p0 p1
          go_wp2_with fail
          clear r3
          refine wp_region_held_drew (S := (fun w3 => Below wr.heap.size wr w3)) (by kernel_rfl) ?_ (fun hHeld => ?_)
          focus (with_reducible first | exact (Below.refl _ _).drew | exact bl_next hb2 hHeld)
          refine wpAnyH_take (i := 0) (v := ?_) rfl (by kernel_rfl) (by kernel_rfl) (by kernel_rfl) (fun _ _ _ h => h) (Or.inl ⟨by rfl, ?_⟩) (by assumption) ?_; rotate_left; (focus (intro w hSw; (try dsimp only at hSw); go_simp; try with_reducible rfl)); (try simp only [Act.put, List.getElem_toArray, List.getElem_cons_succ, List.getElem_cons_zero, List.setIfInBounds_toArray, List.set_cons_zero, List.set_cons_succ])
          refine wpAnyH_take (i := 1) (v := ?_) rfl (by kernel_rfl) (by kernel_rfl) (by kernel_rfl) (fun _ _ _ h => h) (Or.inl ⟨by rfl, ?_⟩) (by assumption) ?_; rotate_left; (focus (intro w hSw; (try dsimp only at hSw); go_simp; try with_reducible rfl)); (try simp only [Act.put, List.getElem_toArray, List.getElem_cons_succ, List.getElem_cons_zero, List.setIfInBounds_toArray, List.set_cons_zero, List.set_cons_succ])
          refine wpAnyH_take (i := 2) (v := ?_) rfl (by kernel_rfl) (by kernel_rfl) (by kernel_rfl) (fun _ _ _ h => h) (Or.inl ⟨by rfl, ?_⟩) (by assumption) ?_; rotate_left; (focus (intro w hSw; (try dsimp only at hSw); go_simp; try with_reducible rfl)); (try simp only [Act.put, List.getElem_toArray, List.getElem_cons_succ, List.getElem_cons_zero, List.setIfInBounds_toArray, List.set_cons_zero, List.set_cons_succ])
          refine wpAnyH_take (i := 3) (v := ?_) rfl (by kernel_rfl) (by kernel_rfl) (by kernel_rfl) (fun _ _ _ h => h) (Or.inl ⟨by rfl, ?_⟩) (by assumption) ?_; rotate_left; (focus (intro w hSw; (try dsimp only at hSw); go_simp; try with_reducible rfl)); (try simp only [Act.put, List.getElem_toArray, List.getElem_cons_succ, List.getElem_cons_zero, List.setIfInBounds_toArray, List.set_cons_zero, List.set_cons_succ])
          refine wpAnyH_take (i := 4) (v := ?_) rfl (by kernel_rfl) (by kernel_rfl) (by kernel_rfl) (fun _ _ _ h => h) (Or.inl ⟨by rfl, ?_⟩) (by assumption) ?_; rotate_left; (focus (intro w hSw; (try dsimp only at hSw); go_simp; try with_reducible rfl)); (try simp only [Act.put, List.getElem_toArray, List.getElem_cons_succ, List.getElem_cons_zero, List.setIfInBounds_toArray, List.set_cons_zero, List.set_cons_succ])
          refine wpAnyH_take (i := 5) (v := ?_) rfl (by kernel_rfl) (by kernel_rfl) (by kernel_rfl) (fun _ _ _ h => h) (Or.inl ⟨by rfl, ?_⟩) (by assumption) ?_; rotate_left; (focus (intro w hSw; (try dsimp only at hSw); go_simp; try with_reducible rfl)); (try simp only [Act.put, List.getElem_toArray, List.getElem_cons_succ, List.getElem_cons_zero, List.setIfInBounds_toArray, List.set_cons_zero, List.set_cons_succ])
          refine wpAnyH_take (i := 6) (v := ?_) rfl (by kernel_rfl) (by kernel_rfl) (by kernel_rfl) (fun _ _ _ h => h) (Or.inl ⟨by rfl, ?_⟩) (by assumption) ?_; rotate_left; (focus (intro w hSw; (try dsimp only at hSw); go_simp; try with_reducible rfl)); (try simp only [Act.put, List.getElem_toArray, List.getElem_cons_succ, List.getElem_cons_zero, List.setIfInBounds_toArray, List.set_cons_zero, List.set_cons_succ])
          refine wpAnyH_take (i := 7) (v := ?_) rfl (by kernel_rfl) (by kernel_rfl) (by kernel_rfl) (fun _ _ _ h => h) (Or.inl ⟨by rfl, ?_⟩) (by assumption) ?_; rotate_left; (focus (intro w hSw; (try dsimp only at hSw); go_simp; try with_reducible rfl)); (try simp only [Act.put, List.getElem_toArray, List.getElem_cons_succ, List.getElem_cons_zero, List.setIfInBounds_toArray, List.set_cons_zero, List.set_cons_succ])
          refine wpAnyH_ready (rs := [8]) (by kernel_rfl) (by simp) (AllReadyH.cons rfl (fun K hK => ?_) AllReadyH.nil); go_simp; ((go_at_call 69; (with_reducible refine (rIsLink_any _ _ _ _ (-1) _ (by omega) (by omega) (by omega)).mono ?_); rintro e w' ⟨rfl, hb2⟩)); go_wp2_with fail; refine hK.out _ _ ?_ (fun hHeld => ?_); (focus (with_reducible first | exact (Below.refl _ _).drew | exact bl_next hb2 hHeld)); clear hK K; (try simp only [Act.put, List.getElem_toArray, List.getElem_cons_succ, List.getElem_cons_zero, List.setIfInBounds_toArray, List.set_cons_zero, List.set_cons_succ])
          refine wpAnyH_take (i := 9) (v := ?_) rfl (by kernel_rfl) (by kernel_rfl) (by kernel_rfl) (fun _ _ _ h => h) (Or.inl ⟨by rfl, ?_⟩) (by assumption) ?_; rotate_left; (focus (intro w hSw; (try dsimp only at hSw); go_simp; try with_reducible rfl)); (try simp only [Act.put, List.getElem_toArray, List.getElem_cons_succ, List.getElem_cons_zero, List.setIfInBounds_toArray, List.set_cons_zero, List.set_cons_succ])
          refine wpAnyH_take (i := 10) (v := ?_) rfl (by kernel_rfl) (by kernel_rfl) (by kernel_rfl) (fun _ _ _ h => h) (Or.inl ⟨by rfl, ?_⟩) (by assumption) ?_; rotate_left; (focus (intro w hSw; (try dsimp only at hSw); go_simp; try with_reducible rfl)); (try simp only [Act.put, List.getElem_toArray, List.getElem_cons_succ, List.getElem_cons_zero, List.setIfInBounds_toArray, List.set_cons_zero, List.set_cons_succ])
          refine wpAnyH_take (i := 11) (v := ?_) rfl (by kernel_rfl) (by kernel_rfl) (by kernel_rfl) (fun _ _ _ h => h) (Or.inl ⟨by rfl, ?_⟩) (by assumption) ?_; rotate_left; (focus (intro w hSw; (try dsimp only at hSw); go_simp; try with_reducible rfl)); (try simp only [Act.put, List.getElem_toArray, List.getElem_cons_succ, List.getElem_cons_zero, List.setIfInBounds_toArray, List.set_cons_zero, List.set_cons_succ])
          refine wpAnyH_take (i := 12) (v := ?_) rfl (by kernel_rfl) (by kernel_rfl) (by kernel_rfl) (fun _ _ _ h => h) (Or.inl ⟨by rfl, ?_⟩) (by assumption) ?_; rotate_left; (focus (intro w hSw; (try dsimp only at hSw); go_simp; try with_reducible rfl)); (try simp only [Act.put, List.getElem_toArray, List.getElem_cons_succ, List.getElem_cons_zero, List.setIfInBounds_toArray, List.set_cons_zero, List.set_cons_succ])
          refine wpAnyH_take (i := 13) (v := ?_) rfl (by kernel_rfl) (by kernel_rfl) (by kernel_rfl) (fun _ _ _ h => h) (Or.inl ⟨by rfl, ?_⟩) (by assumption) ?_; rotate_left; (focus (intro w hSw; (try dsimp only at hSw); go_simp; try with_reducible rfl)); (try simp only [Act.put, List.getElem_toArray, List.getElem_cons_succ, List.getElem_cons_zero, List.setIfInBounds_toArray, List.set_cons_zero, List.set_cons_succ])
          refine wpAnyH_take (i := 14) (v := ?_) rfl (by kernel_rfl) (by kernel_rfl) (by kernel_rfl) (fun _ _ _ h => h) (Or.inl ⟨by rfl, ?_⟩) (by assumption) ?_; rotate_left; (focus (intro w hSw; (try dsimp only at hSw); go_simp; try with_reducible rfl)); (try simp only [Act.put, List.getElem_toArray, List.getElem_cons_succ, List.getElem_cons_zero, List.setIfInBounds_toArray, List.set_cons_zero, List.set_cons_succ])
          refine wpAnyH_take (i := 15) (v := ?_) rfl (by kernel_rfl) (by kernel_rfl) (by kernel_rfl) (fun _ _ _ h => h) (Or.inl ⟨by rfl, ?_⟩) (by assumption) ?_; rotate_left; (focus (intro w hSw; (try dsimp only at hSw); go_simp; try with_reducible rfl)); (try simp only [Act.put, List.getElem_toArray, List.getElem_cons_succ, List.getElem_cons_zero, List.setIfInBounds_toArray, List.set_cons_zero, List.set_cons_succ])
          refine wpAnyH_take (i := 16) (v := ?_) rfl (by kernel_rfl) (by kernel_rfl) (by kernel_rfl) (fun _ _ _ h => h) (Or.inl ⟨by rfl, ?_⟩) (by assumption) ?_; rotate_left; (focus (intro w hSw; (try dsimp only at hSw); go_simp; try with_reducible rfl)); (try simp only [Act.put, List.getElem_toArray, List.getElem_cons_succ, List.getElem_cons_zero, List.setIfInBounds_toArray, List.set_cons_zero, List.set_cons_succ])
          refine wpAnyH_take (i := 17) (v := ?_) rfl (by kernel_rfl) (by kernel_rfl) (by kernel_rfl) (fun _ _ _ h => h) (Or.inl ⟨by rfl, ?_⟩) (by assumption) ?_; rotate_left; (focus (intro w hSw; (try dsimp only at hSw); go_simp; try with_reducible rfl)); (try simp only [Act.put, List.getElem_toArray, List.getElem_cons_succ, List.getElem_cons_zero, List.setIfInBounds_toArray, List.set_cons_zero, List.set_cons_succ])
          refine wpAnyH_take (i := 18) (v := ?_) rfl (by kernel_rfl) (by kernel_rfl) (by kernel_rfl) (fun _ _ _ h => h) (Or.inl ⟨by rfl, ?_⟩) (by assumption) ?_; rotate_left; (focus (intro w hSw; (try dsimp only at hSw); go_simp; try with_reducible rfl)); (try simp only [Act.put, List.getElem_toArray, List.getElem_cons_succ, List.getElem_cons_zero, List.setIfInBounds_toArray, List.set_cons_zero, List.set_cons_succ])
          refine wpAnyH_ready (rs := [19]) (by kernel_rfl) (by simp) (AllReadyH.cons rfl (fun K hK => ?_) AllReadyH.nil); go_simp; ((go_at_call 69; (with_reducible refine (rIsLink_any _ _ _ _ (y.b) _ (by omega) (by omega) (by omega)).mono ?_); rintro e w' ⟨rfl, hb2⟩)); go_wp2_with fail; refine hK.out _ _ ?_ (fun hHeld => ?_); (focus (with_reducible first | exact (Below.refl _ _).drew | exact bl_next hb2 hHeld)); clear hK K; (try simp only [Act.put, List.getElem_toArray, List.getElem_cons_succ, List.getElem_cons_zero, List.setIfInBounds_toArray, List.set_cons_zero, List.set_cons_succ])
          refine wpAnyH_take (i := 20) (v := ?_) rfl (by kernel_rfl) (by kernel_rfl) (by kernel_rfl) (fun _ _ _ h => h) (Or.inl ⟨by rfl, ?_⟩) (by assumption) ?_; rotate_left; (focus (intro w hSw; (try dsimp only at hSw); go_simp; try with_reducible rfl)); (try simp only [Act.put, List.getElem_toArray, List.getElem_cons_succ, List.getElem_cons_zero, List.setIfInBounds_toArray, List.set_cons_zero, List.set_cons_succ])
          refine wpAnyH_take (i := 21) (v := ?_) rfl (by kernel_rfl) (by kernel_rfl) (by kernel_rfl) (fun _ _ _ h => h) (Or.inl ⟨by rfl, ?_⟩) (by assumption) ?_; rotate_left; (focus (intro w hSw; (try dsimp only at hSw); go_simp; try with_reducible rfl)); (try simp only [Act.put, List.getElem_toArray, List.getElem_cons_succ, List.getElem_cons_zero, List.setIfInBounds_toArray, List.set_cons_zero, List.set_cons_succ])
          refine wpAnyH_done (by kernel_rfl) ?_ _
          have hbl := hHeld
          have R3 := Lib.hid (RR.out.below hbl hq2)
          have B3 := Lib.hid (bl_next hbl BR.out)
          clear hbl q0 q1 q3 q4 q5
          go_wp2_with fail
          go_roundw
          case rel => exact ⟨k' + 1, by omega, by go_num, R3.out, B3.out⟩
          case measure => simp [intOf]; omega
        · clear hR hB
          go_wp2_with fail
          go_ret
          exact ⟨rfl, BR.out⟩
end Go.Proofs.YtpaiapcnoifpmaaDoor
