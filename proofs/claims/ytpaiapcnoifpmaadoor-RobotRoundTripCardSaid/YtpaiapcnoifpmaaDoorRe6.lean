/- Proved: the developers' Write returns the statements of a valid robot. Conditions: as each theorem states. -/
import Derived.Test.YtpaiapcnoifpmaaDoorRe5
import Derived.Test.YtpaiapcnoifpmaaDoorRc2
namespace Go.Proofs.YtpaiapcnoifpmaaDoor
open Go.RowKit

def WrR (js : List JointD) (ms : List MassD) (i k : Nat) (l : List St) : Prop := WrL js ms i k l ∧ (∀ g ∈ l, FewW g) ∧ l.length ≤ 2 * i + k
theorem WrR.len {js : List JointD} {ms : List MassD} {i k : Nat} {l : List St} (h : WrR js ms i k l) : l.length ≤ 2 * i + k := h.2.2
theorem WrR.nil {js : List JointD} {ms : List MassD} : WrR js ms 0 0 [] := ⟨.nil, fun g h => absurd h (by simp), Nat.le_refl _⟩
theorem news6 (W : World) (a b c d e f : Value) (T : TypeId) : ∀ k u, [a, b, c, d, e, f][k]? = some u → (W.alloc (.cells #[a, b, c, d, e, f] T)).cell? ((⟨W.heap.size, 0, none⟩ : Addr).add k) = some u := by
  intro k u hu
  match k, hu with
  | 0, hu => simp at hu; subst hu; simp [Addr.add]
  | 1, hu => simp at hu; subst hu; simp [Addr.add]
  | 2, hu => simp at hu; subst hu; simp [Addr.add]
  | 3, hu => simp at hu; subst hu; simp [Addr.add]
  | 4, hu => simp at hu; subst hu; simp [Addr.add]
  | 5, hu => simp at hu; subst hu; simp [Addr.add]
  | k + 6, hu => simp at hu
theorem OutS.push2 {B : Nat} {W w1 : World} {v v' va vb : Value} {l : List St} {vals : List Value} {g h : St} {o : Obj} (hh : OutS B W v l vals) (hva : OwnT B W va g.args) (hvb : OwnT B W vb h.args) (hown : w1.ownsRow B 43 3 v' (l.length + 2) (stcells l vals ++ (stcell g va ++ stcell h vb))) (hg : (W.alloc o).grownBy w1 v.ownBlock) :
    OutS B w1 v' (l ++ [g, h]) (vals ++ [va, vb]) := by
  obtain ⟨h1, h2, h3⟩ := hh
  have e : stcells (l ++ [g, h]) (vals ++ [va, vb]) = stcells l vals ++ (stcell g va ++ stcell h vb) := by
    rw [show l ++ [g, h] = (l ++ [g]) ++ [h] by simp, show vals ++ [va, vb] = (vals ++ [va]) ++ [vb] by simp, stcells_snoc (by simp [h1]), stcells_snoc h1, List.append_assoc]
  refine ⟨by simp [h1], by rw [e, List.length_append]; exact hown, fun k hk => ?_⟩
  have kp : ∀ {u : Value} {xs : List ByteArray}, OwnT B W u xs → OwnT B w1 u xs := fun {u xs} hu => by
    have hu' : W.ownsRow B 9 1 u xs.length (xs.map .string) := hu
    exact (hu'.alloc o).kept hg (own_apart hu' h2 (by decide))
  rcases Nat.lt_or_ge k l.length with hlt | hge
  · rw [List.getElem_append_left hlt, List.getD_eq_getElem?_getD, List.getElem?_append_left (by omega), ← List.getD_eq_getElem?_getD]
    exact kp (h3 k hlt)
  · rcases (show k = l.length ∨ k = l.length + 1 by simp at hk; omega) with rfl | rfl
    · have : (vals ++ [va, vb]).getD l.length undef = va := by rw [List.getD_eq_getElem?_getD, List.getElem?_append_right (by omega), h1, Nat.sub_self]; rfl
      rw [this]
      simpa using kp hva
    · have : (vals ++ [va, vb]).getD (l.length + 1) undef = vb := by rw [List.getD_eq_getElem?_getD, List.getElem?_append_right (by omega), h1, show l.length + 1 - l.length = 1 by omega]; rfl
      rw [this]
      simpa [List.getElem_append_right] using kp hvb
theorem WrR.joint {js : List JointD} {ms : List MassD} {i : Nat} {l : List St} {g h : St} {j : JointD} (p : WrR js ms i 0 l) (hi : i < js.length) (hj : js[i] = j) (w : WJ js j g h ∧ FewW g ∧ FewW h) : WrR js ms (i + 1) 0 (l ++ [g, h]) := by
  subst hj
  obtain ⟨p1, p2, p3⟩ := p
  refine ⟨.joint p1 hi w.1, fun x hx => ?_, by rw [List.length_append]; simp; omega⟩
  rcases List.mem_append.1 hx with hx | hx
  · exact p2 x hx
  · simp only [List.mem_cons, List.not_mem_nil, or_false] at hx
    rcases hx with rfl | rfl
    · exact w.2.1
    · exact w.2.2
theorem WrR.mass {js : List JointD} {ms : List MassD} {k : Nat} {l : List St} {g : St} {m : MassD} (p : WrR js ms js.length k l) (hk : k < ms.length) (hm : ms[k] = m) (w : WM js m g ∧ FewW g) : WrR js ms js.length (k + 1) (l ++ [g]) := by
  subst hm
  obtain ⟨p1, p2, p3⟩ := p
  refine ⟨.mass p1 hk w.1, fun x hx => ?_, by rw [List.length_append]; simp; omega⟩
  rcases List.mem_append.1 hx with hx | hx
  · exact p2 x hx
  · rw [List.mem_singleton.1 hx]; exact w.2
def SameW (l l' : List St) : Prop := l'.map keyS = l.map keyS
theorem SameW.len {l l' : List St} (h : SameW l l') : l'.length = l.length := by simpa using congrArg List.length h
theorem SameW.set {l l' : List St} (h : SameW l l') {k : Nat} (hk : k < l'.length) (x : Int) : SameW l (l'.set k { l'[k] with line := x }) := by
  unfold SameW at h ⊢
  rw [List.map_set, h]
  refine List.ext_getElem (by simp) (fun i h1 h2 => ?_)
  rw [List.getElem_set]
  split
  · rename_i e
    subst e
    have : (l'.map keyS)[k]'(by simpa using hk) = (l.map keyS)[k]'h2 := by simp only [h]
    rw [← this, List.getElem_map]
    rfl
  · rfl
theorem WrR.same {js : List JointD} {ms : List MassD} {i k : Nat} {l l' : List St} (p : WrR js ms i k l) (h : SameW l l') : WrR js ms i k l' := by
  refine ⟨p.1.lines l' h, fun g hg => ?_, by rw [h.len]; exact p.2.2⟩
  have hm : keyS g ∈ l.map keyS := by rw [← h]; exact List.mem_map_of_mem hg
  obtain ⟨g0, h0, e⟩ := List.mem_map.1 hm
  have hf := p.2.1 g0 h0
  unfold FewW at hf ⊢
  rw [← (key_eq e).2]
  exact hf
theorem stcells_line (l : List St) : ∀ (vs : List Value) (k : Nat) (_ : vs.length = l.length) (hk : k < l.length) (x : Int), stcells (l.set k { l[k] with line := x }) vs = (stcells l vs).set (k * 3) (.int .i64 x) := by
  induction l with
  | nil => intro vs k h hk; exact absurd hk (Nat.not_lt_zero _)
  | cons y l ih =>
    intro vs k h hk x
    cases vs with
    | nil => simp at h
    | cons v vs =>
      match k, hk with
      | 0, _ => simp [stcells, stcell]
      | k + 1, hk =>
        have e := ih vs k (by simpa using h) (by simpa using hk) x
        simp only [List.set_cons_succ, List.getElem_cons_succ, stcells]
        rw [e, List.set_append_right _ _ (by simp [stcell]; omega)]
        rw [show (stcell y v).length = 3 from rfl, show (k + 1) * 3 - 3 = k * 3 by omega]
theorem OutS.line {B g n c : Nat} {W : World} {l : List St} {vals : List Value} (h : OutS B W (.slice (some ⟨g, 0, none⟩) n c) l vals) (hn : n = l.length) (k : Nat) (hk : k < l.length) (x : Int) :
    OutS B (W.setCell ⟨g, k * 3, none⟩ (.int .i64 x)) (.slice (some ⟨g, 0, none⟩) n c) (l.set k { l[k] with line := x }) vals := by
  subst hn
  obtain ⟨h1, h2, h3⟩ := h
  refine ⟨by rw [List.length_set]; exact h1, ?_, fun q hq => ?_⟩
  · rw [List.length_set, stcells_line l vals k h1 hk x]
    exact (h2.stored (k * 3) _).1
  · have e : (l.set k { l[k] with line := x })[q].args = (l[q]'(by simpa using hq)).args := by
      rw [List.getElem_set]
      split
      · rename_i e; subst e; rfl
      · rfl
    rw [e]
    have hq' : W.ownsRow B 9 1 (vals.getD q undef) _ _ := h3 q (by simpa using hq)
    exact ownsRow_setCell_other hq' (a := ⟨g, k * 3, none⟩) ((own_apart hq' h2 (by decide)).elim (fun h => by rw [h]; exact fun e => by cases e) id) _
def WriteP (js : List JointD) (ms : List MassD) (w : World) : Ending → World → Prop := fun e w' => ∃ v l vals, e = .returned v ∧ OutS w.heap.size w' v l vals ∧ WrR js ms js.length ms.length l ∧ Below w.heap.size w w'
set_option linter.unusedSimpArgs false in
set_option linter.unusedVariables false in
set_option maxRecDepth 100000 in
set_option maxHeartbeats 12800000 in
theorem sWrite_any (js : List JointD) (ms : List MassD) (vj vm : Value) (w : World) (hT : Pow10 w) (hK : KindT w) (hr : RobD w vj vm js ms) (hc : checkR js ms = 0) :
    Calls Tryd.prog 19 #[ .agg #[vj, vm] ] w (WriteP js ms w) := by
  obtain ⟨⟨l1, l10⟩, herr, m32, hms⟩ := check_zero hc
  have HG := Lib.hid (fun i (hi : i < js.length) => good_joint8 hi (herr i hi))
  have HMS := Lib.hid hms
  have HD0 := Lib.hid hr
  obtain ⟨Bj, dj, rfl, _, _⟩ := hr.rj.joint
  obtain ⟨Bm, dm, rfl, _, _⟩ := hr.rm.mass
  have hb0 := (Below.refl w.heap.size w).alloc (Nat.le_refl _) (.cells #[.slice Bj js.length dj, .slice Bm ms.length dm] 25)
  have hR := RobAt.box (V := w) (vj := .slice Bj js.length dj) (vm := .slice Bm ms.length dm) rfl
  have HT := Lib.hid (hT.next hb0)
  have HK := Lib.hid (hK.next hb0)
  have HD := Lib.hid (hr.below hb0 (Nat.le_refl _))
  have HB0 := Lib.hid hb0
  have HR := Lib.hid hR
  obtain ⟨i0, hi, hz0, hz1, hz2⟩ := info_parts info_st
  have HI := Lib.hid hi
  have HZ0 := Lib.hid hz0
  have HZ1 := Lib.hid hz1
  have HZ2 := Lib.hid hz2
  clear hi hz0 hz1 hz2 hT hK hr hb0 hR herr hms
  have HC := Lib.hid hc
  clear hc
  unfold WriteP
  go_enter Tryd.func19, Tryd.ntmps19
  go_wp2_with fail
  refine (sCheck_any js ms _ _ _ HD.out).mono ?_
  rintro e w1 ⟨rfl, hb⟩
  rw [HC.out]
  obtain ⟨U, hU⟩ : ∃ U, w.alloc (.cells #[.slice Bj js.length dj, .slice Bm ms.length dm] 25) = U := ⟨_, rfl⟩
  have hUs : w.heap.size < U.heap.size := by rw [← hU]; simp
  rw [hU] at HT HK HD HB0 HR hb
  have HB1 := Lib.hid hb
  clear hU hb
  have r0 := (HR.out.below HB1.out (by omega)).c0
  go_wp2_with fail
  go_loopw [3, 15] (fun v i wr => ∃ (k : Nat) (l : List St) (vals : List Value), i = .int .i64 k ∧ k ≤ js.length ∧ OutS U.heap.size wr v l vals ∧ WrR js ms k 0 l ∧ Below U.heap.size U wr) (fun _ i _ => js.length - (intOf i).toNat)
  case atStart => exact ⟨0, [], [], rfl, Nat.zero_le _, OutS.nil _ _, WrR.nil, HB1.out⟩
  case round =>
    obtain ⟨k, l, vals, rfl, hkl, hout, hwr, hb⟩ := hrel
    have HO := Lib.hid hout
    have HW := Lib.hid hwr
    have HB := Lib.hid hb
    have hbs := hb.size
    obtain ⟨q5, k5, c5x, rfl⟩ := own_slc hout.2.1
    have hlen := hwr.len
    clear hout hwr r0
    by_cases hlt : k < js.length
    · obtain ⟨_, _, ea, _, hat⟩ := (HD.out.rj.below hb (Nat.le_refl _)).joint
      injection ea with ea _ ec
      subst ea ec
      obtain ⟨g, o, rfl, hg, c0, c1, c2, c3, c4, c5, c6, c7, c8, c9, c10, c11⟩ := hat k hlt
      obtain ⟨j, hje⟩ : ∃ j, js[k] = j := ⟨_, rfl⟩
      have HJE := Lib.hid hje
      rw [hje] at c0 c1 c2 c3 c4 c5 c6 c7 c8 c9 c10 c11
      have hRb := HR.out.below hb (by omega)
      have r0 := hRb.c0
      have r1 := hRb.c1
      have hjs : ∀ u ∈ [j.speed, j.accel, j.torque], 0 ≤ u ∧ u < 1000000000000000 := by rw [← HJE.out]; exact (HG.out k hlt).int
      have HINT := Lib.hid hjs
      have HGJ := Lib.hid (show GoodJ js k j by rw [← HJE.out]; exact HG.out k hlt)
      have hbwV := (Below.refl wr.heap.size wr).alloc (Nat.le_refl _) (.cells (jointC j) 60)
      have HBV := Lib.hid (bl_next hbwV HB.out)
      have RV := Lib.hid (RobAt.below hRb hbwV (by omega))
      have JV := Lib.hid (JointAt.at_new (V := wr) (b := wr.heap.size) (j := j) rfl)
      have HBW := Lib.hid hbwV
      clear hat hb hRb hje hjs hbwV
      go_wp2_with fail
      clear c0 c1 c2 c3 c4 c5 c6 c7 c8 c9 c10 c11 r0 r1
      obtain ⟨V, hV⟩ : ∃ V, wr.alloc (.cells (jointC j) 60) = V := ⟨_, rfl⟩
      have hVs : V.heap.size = wr.heap.size + 1 := by rw [← hV]; simp
      rw [hV] at HBV RV JV HBW
      simp only [jointC] at hV
      rw [hV]
      clear hV
      have HSS := Lib.hid (show ∀ W', RobAt W' w.heap.size (.slice (some ⟨g, o, none⟩) js.length dj) (.slice Bm ms.length dm) → JointAt W' wr.heap.size j → (fun w1 : World => w1.cell? ⟨w.heap.size, 0, none⟩ = some (.slice (some ⟨g, o, none⟩) js.length dj) ∧ w1.cell? ⟨w.heap.size, 1, none⟩ = some (.slice Bm ms.length dm) ∧ w1.cell? ⟨wr.heap.size, 0, none⟩ = some (.string j.name) ∧ w1.cell? ⟨wr.heap.size, 1, none⟩ = some (.int .i64 j.kind) ∧ w1.cell? ⟨wr.heap.size, 2, none⟩ = some (.int .i64 j.parent) ∧ w1.cell? ⟨wr.heap.size, 3, none⟩ = some (.int .i64 j.x) ∧ w1.cell? ⟨wr.heap.size, 4, none⟩ = some (.int .i64 j.y) ∧ w1.cell? ⟨wr.heap.size, 5, none⟩ = some (.int .i64 j.z) ∧ w1.cell? ⟨wr.heap.size, 6, none⟩ = some (.int .i64 j.lo) ∧ w1.cell? ⟨wr.heap.size, 7, none⟩ = some (.int .i64 j.hi) ∧ w1.cell? ⟨wr.heap.size, 8, none⟩ = some (.int .i64 j.weight) ∧ w1.cell? ⟨wr.heap.size, 9, none⟩ = some (.int .i64 j.speed) ∧ w1.cell? ⟨wr.heap.size, 10, none⟩ = some (.int .i64 j.accel) ∧ w1.cell? ⟨wr.heap.size, 11, none⟩ = some (.int .i64 j.torque)) W' from fun W' h1 h2 => ⟨h1.c0, h1.c1, h2.all⟩)
      refine wp_region_noPanic ?_
      refine wp_region_held_drew (S := (fun w1 : World => w1.cell? ⟨w.heap.size, 0, none⟩ = some (.slice (some ⟨g, o, none⟩) js.length dj) ∧ w1.cell? ⟨w.heap.size, 1, none⟩ = some (.slice Bm ms.length dm) ∧ w1.cell? ⟨wr.heap.size, 0, none⟩ = some (.string j.name) ∧ w1.cell? ⟨wr.heap.size, 1, none⟩ = some (.int .i64 j.kind) ∧ w1.cell? ⟨wr.heap.size, 2, none⟩ = some (.int .i64 j.parent) ∧ w1.cell? ⟨wr.heap.size, 3, none⟩ = some (.int .i64 j.x) ∧ w1.cell? ⟨wr.heap.size, 4, none⟩ = some (.int .i64 j.y) ∧ w1.cell? ⟨wr.heap.size, 5, none⟩ = some (.int .i64 j.z) ∧ w1.cell? ⟨wr.heap.size, 6, none⟩ = some (.int .i64 j.lo) ∧ w1.cell? ⟨wr.heap.size, 7, none⟩ = some (.int .i64 j.hi) ∧ w1.cell? ⟨wr.heap.size, 8, none⟩ = some (.int .i64 j.weight) ∧ w1.cell? ⟨wr.heap.size, 9, none⟩ = some (.int .i64 j.speed) ∧ w1.cell? ⟨wr.heap.size, 10, none⟩ = some (.int .i64 j.accel) ∧ w1.cell? ⟨wr.heap.size, 11, none⟩ = some (.int .i64 j.torque))) (by kernel_rfl) ?_ (fun hHeld => ?_)
      focus (refine HSS.out _ ?_ ?_; (first | exact RV.out | exact R5.out | exact R6.out | exact R7.out | exact (Below.heap_alloc _ _ _ R6.out.lt').trans R6.out); (first | exact JV.out | exact J5.out | exact J6.out | exact J7.out | exact (Below.heap_alloc _ _ _ J6.out.lt).trans J6.out))
      refine wpAnyH_take (i := 0) (v := ?_) rfl (by kernel_rfl) (by kernel_rfl) (by kernel_rfl) (fun _ _ _ h => h) (Or.inl ⟨by rfl, ?_⟩) (by assumption) ?_; rotate_left; (focus (intro w hSw; (try dsimp only at hSw); go_simp; try with_reducible rfl)); (try simp only [Act.put, List.getElem_toArray, List.getElem_cons_succ, List.getElem_cons_zero, List.setIfInBounds_toArray, List.set_cons_zero, List.set_cons_succ])
      refine wpAnyH_take (i := 1) (v := ?_) rfl (by kernel_rfl) (by kernel_rfl) (by kernel_rfl) (fun _ _ _ h => h) (Or.inl ⟨by rfl, ?_⟩) (by assumption) ?_; rotate_left; (focus (intro w hSw; (try dsimp only at hSw); go_simp; try with_reducible rfl)); (try simp only [Act.put, List.getElem_toArray, List.getElem_cons_succ, List.getElem_cons_zero, List.setIfInBounds_toArray, List.set_cons_zero, List.set_cons_succ])
      refine wpAnyH_take (i := 2) (v := ?_) rfl (by kernel_rfl) (by kernel_rfl) (by kernel_rfl) (fun _ _ _ h => h) (Or.inl ⟨by rfl, ?_⟩) (by assumption) ?_; rotate_left; (focus (intro w hSw; (try dsimp only at hSw); go_simp; try with_reducible rfl)); (try simp only [Act.put, List.getElem_toArray, List.getElem_cons_succ, List.getElem_cons_zero, List.setIfInBounds_toArray, List.set_cons_zero, List.set_cons_succ])
      refine wpAnyH_take (i := 4) (v := ?_) rfl (by kernel_rfl) (by kernel_rfl) (by kernel_rfl) (fun _ _ _ h => h) (Or.inl ⟨by rfl, ?_⟩) (by assumption) ?_; rotate_left; (focus (intro w hSw; (try dsimp only at hSw); go_simp; try with_reducible rfl)); (try simp only [Act.put, List.getElem_toArray, List.getElem_cons_succ, List.getElem_cons_zero, List.setIfInBounds_toArray, List.set_cons_zero, List.set_cons_succ])
      refine wpAnyH_ready (rs := [3]) (by kernel_rfl) (by simp) (AllReadyH.cons rfl (fun K hK => ?_) AllReadyH.nil); go_simp; ((first | refine (jointSt_any js _ _ k hlt j HJE.out V.drew (HT.out.next HBV.out.drew) (HK.out.next HBV.out.drew) HGJ.out (HD.out.rj.below HBV.out.drew (Nat.le_refl _)) (by omega)).mono ?_ | fail); rintro e w5 ⟨va, bs, b, rfl, hown5, hl5, hn5, hw5, hb5⟩; obtain ⟨qa, ka, ca, rfl⟩ := own_slc hown5; have hb5v : Below V.heap.size V w5 := bl_next hb5 ((Below.refl _ _).drew); have hown5v : OwnT V.heap.size w5 (.slice qa ka ca) _ := hown5; have R5 := Lib.hid (RV.out.below hb5v (by omega)); have J5 := Lib.hid (JV.out.below hb5v (by omega)); have HBU5 := Lib.hid (bl_next hb5v HBV.out); have HL5 := Lib.hid hl5; have HN5 := Lib.hid hn5; have HW5 := Lib.hid hw5; have HO5 := Lib.hid hown5v; have HB5 := Lib.hid hb5v; clear hb5 hown5 hown5v hl5 hn5 hw5 hb5v); go_wp2_with fail; refine hK.out _ _ ?_ (fun hHeld => ?_); (focus (refine HSS.out _ ?_ ?_; (first | exact RV.out | exact R5.out | exact R6.out | exact R7.out | exact (Below.heap_alloc _ _ _ R6.out.lt').trans R6.out); (first | exact JV.out | exact J5.out | exact J6.out | exact J7.out | exact (Below.heap_alloc _ _ _ J6.out.lt).trans J6.out))); clear hK K; (try simp only [Act.put, List.getElem_toArray, List.getElem_cons_succ, List.getElem_cons_zero, List.setIfInBounds_toArray, List.set_cons_zero, List.set_cons_succ])
      refine wpAnyH_ready (rs := [5]) (by kernel_rfl) (by simp) (AllReadyH.cons rfl (fun K hK => ?_) AllReadyH.nil); go_simp; ((first | refine (limitSt_any j _ (HT.out.next HBU5.out) HINT.out).mono ?_ | fail); rintro e w6 ⟨vb, cs, rfl, hown6, hl6, hn6, hb6⟩; obtain ⟨qb, kb, cb, rfl⟩ := own_slc hown6; have hs5 := HB5.out.size; have R6 := Lib.hid (R5.out.below hb6 R5.out.lt'); have J6 := Lib.hid (J5.out.below hb6 J5.out.lt); have HBU6 := Lib.hid (bl_next hb6 HBU5.out); have HL6 := Lib.hid hl6; have HN6 := Lib.hid hn6; have HO56 := Lib.hid (HO5.out.next hb6); have HO6 := Lib.hid hown6; have HS6 := Lib.hid (HO.out.next (bl_next hb6 (bl_next HB5.out HBW.out))); have hs6 := HBU6.out.size; clear hown6 hl6 hn6 hb6); go_wp2_with fail; refine hK.out _ _ ?_ (fun hHeld => ?_); (focus (refine HSS.out _ ?_ ?_; (first | exact RV.out | exact R5.out | exact R6.out | exact R7.out | exact (Below.heap_alloc _ _ _ R6.out.lt').trans R6.out); (first | exact JV.out | exact J5.out | exact J6.out | exact J7.out | exact (Below.heap_alloc _ _ _ J6.out.lt).trans J6.out))); clear hK K; (try simp only [Act.put, List.getElem_toArray, List.getElem_cons_succ, List.getElem_cons_zero, List.setIfInBounds_toArray, List.set_cons_zero, List.set_cons_succ])
      refine wpAnyH_ready (rs := [6]) (by kernel_rfl) (by simp) (AllReadyH.cons rfl (fun K hK => ?_) AllReadyH.nil); go_simp; refine hK.out _ _ ?_ (fun hHeld => ?_); (focus (refine HSS.out _ ?_ ?_; (first | exact RV.out | exact R5.out | exact R6.out | exact R7.out | exact (Below.heap_alloc _ _ _ R6.out.lt').trans R6.out); (first | exact JV.out | exact J5.out | exact J6.out | exact J7.out | exact (Below.heap_alloc _ _ _ J6.out.lt).trans J6.out))); clear hK K; (try simp only [Act.put, List.getElem_toArray, List.getElem_cons_succ, List.getElem_cons_zero, List.setIfInBounds_toArray, List.set_cons_zero, List.set_cons_succ])
      refine wpAnyH_ready (rs := [7]) (by kernel_rfl) (by simp) (AllReadyH.cons rfl (fun K hK => ?_) AllReadyH.nil); rw [if_pos (by rfl)]; have HOA := Lib.hid (HS6.out.2.1.alloc (.cells #[.int .i64 0, .string ⟨#[106, 111, 105, 110, 116]⟩, .slice qa ka ca, .int .i64 0, .string ⟨#[108, 105, 109, 105, 116]⟩, .slice qb kb cb] 43)); refine wp_append_own _ (.tmp 19) (.tmp 25) 33 rfl U.heap.size 43 i0 (.agg #[.int .i64 0, .string ⟨#[]⟩, .slice none 0 0]) 3 48 under_sts HI.out HZ0.out HZ1.out HZ2.out rfl (by decide) (.slice q5 k5 c5x) l.length (stcells l vals) rfl HOA.out ⟨w6.heap.size, 0, none⟩ 2 2 [.int .i64 0, .string ⟨#[106, 111, 105, 110, 116]⟩, .slice qa ka ca, .int .i64 0, .string ⟨#[108, 105, 109, 105, 116]⟩, .slice qb kb cb] rfl rfl (news6 w6 _ _ _ _ _ _ _) (fun u hu => by simp at hu; rcases hu with rfl | rfl | rfl | rfl | rfl | rfl <;> rfl) (by unfold maxLen; omega) (by omega) (by simp; omega) ?_; intro v' w7 hown7 hgrow7 _; obtain ⟨q7, k7, c7, rfl⟩ := own_slc hown7; have R7 := Lib.hid ((hgrow7.block _ (by have := R6.out.lt'; simp; omega) (fun e => own_ne HOA.out ((Below.heap_alloc _ _ _ R6.out.lt').trans R6.out) (by decide) e.symm)).trans ((Below.heap_alloc _ _ _ R6.out.lt').trans R6.out)); have J7 := Lib.hid ((hgrow7.block _ (by have := J6.out.lt; simp; omega) (fun e => own_ne HOA.out ((Below.heap_alloc _ _ _ J6.out.lt).trans J6.out) (by decide) e.symm)).trans ((Below.heap_alloc _ _ _ J6.out.lt).trans J6.out)); have HP := Lib.hid (OutS.push2 (g := ⟨0, ⟨#[106, 111, 105, 110, 116]⟩, _⟩) (h := ⟨0, ⟨#[108, 105, 109, 105, 116]⟩, _⟩) HS6.out (owns_base HO56.out (by omega)) (owns_base HO6.out (by omega)) hown7 hgrow7); have HBF := Lib.hid ((HBU6.out.alloc hs6 _).grown hgrow7 (by simp; omega) (fun jj hj => (HO.out.2.1.lt jj hj).1)); clear hown7 hgrow7; refine hK.out _ _ ?_ (fun hHeld => ?_); (focus (refine HSS.out _ ?_ ?_; (first | exact RV.out | exact R5.out | exact R6.out | exact R7.out | exact (Below.heap_alloc _ _ _ R6.out.lt').trans R6.out); (first | exact JV.out | exact J5.out | exact J6.out | exact J7.out | exact (Below.heap_alloc _ _ _ J6.out.lt).trans J6.out))); clear hK K; (try simp only [Act.put, List.getElem_toArray, List.getElem_cons_succ, List.getElem_cons_zero, List.setIfInBounds_toArray, List.set_cons_zero, List.set_cons_succ])
      refine wpAnyH_take (i := 8) (v := ?_) rfl (by kernel_rfl) (by kernel_rfl) (by kernel_rfl) (fun _ _ _ h => h) (Or.inl ⟨by rfl, ?_⟩) (by assumption) ?_; rotate_left; (focus (intro w hSw; (try dsimp only at hSw); go_simp; try with_reducible rfl)); (try simp only [Act.put, List.getElem_toArray, List.getElem_cons_succ, List.getElem_cons_zero, List.setIfInBounds_toArray, List.set_cons_zero, List.set_cons_succ])
      refine wpAnyH_done (by kernel_rfl) ?_ _
      refine NoPanic.normal ?_
      have HWN := Lib.hid (HW.out.joint hlt HJE.out (by have h := mk_WJ HG.out hlt HL5.out HL6.out (by rw [HJE.out]; exact HN5.out) (by rw [HJE.out]; exact HW5.out) (by rw [HJE.out]; exact HN6.out) 0 0; rw [HJE.out] at h; exact h))
      go_wp2_with fail
      go_roundw
      case rel => exact ⟨k + 1, _, _, by go_num, hlt, HP.out, HWN.out, HBF.out⟩
      case measure => simp [intOf]; omega
    · have hke : k = js.length := by omega
      subst hke
      have hRb := HR.out.below hb (by omega)
      have r1 := hRb.c1
      clear hb hRb hlt hkl
      go_wp2_with fail
      clear r1
      obtain ⟨wo, hwo⟩ : ∃ wo, wo = wr := ⟨_, rfl⟩
      subst hwo
      obtain ⟨vo, hvo⟩ : ∃ v, Value.slice q5 k5 c5x = v := ⟨_, rfl⟩
      rw [hvo] at HO ⊢
      clear hvo
      go_loopw [3, 31] (fun v i wr => ∃ (k2 : Nat) (l2 : List St) (vals2 : List Value), i = .int .i64 k2 ∧ k2 ≤ ms.length ∧ OutS U.heap.size wr v l2 vals2 ∧ WrR js ms js.length k2 l2 ∧ Below U.heap.size U wr) (fun _ i _ => ms.length - (intOf i).toNat)
      case atStart => exact ⟨0, l, vals, rfl, Nat.zero_le _, HO.out, HW.out, HB.out⟩
      case round =>
        obtain ⟨k2, l2, vals2, rfl, hkl2, hout2, hwr2, hb2⟩ := hrel
        clear HO HW HB hlen hbs
        have HO := Lib.hid hout2
        have HW := Lib.hid hwr2
        have HB := Lib.hid hb2
        have hbs := hb2.size
        obtain ⟨q6, k6, c6x, rfl⟩ := own_slc hout2.2.1
        have hlen2 := hwr2.len
        clear hout2 hwr2
        by_cases hlt2 : k2 < ms.length
        · obtain ⟨_, _, ea, _, hat⟩ := (HD.out.rm.below hb2 (Nat.le_refl _)).mass
          injection ea with ea _ ec
          subst ea ec
          obtain ⟨g, o, rfl, hg, c0, c1, c2, c3, c4⟩ := hat k2 hlt2
          have hmo := HMS.out k2 hlt2
          obtain ⟨m, hme⟩ : ∃ m, ms[k2] = m := ⟨_, rfl⟩
          have HME := Lib.hid hme
          rw [hme] at c0 c1 c2 c3 c4 hmo
          simp [massOk, near3] at hmo
          obtain ⟨ln, hln⟩ : ∃ ln : Nat, m.link = ln := ⟨m.link.toNat, by omega⟩
          have hlnl : ln < js.length := by omega
          have hnum : ∀ u ∈ [m.mass, m.x, m.y, m.z], -2147483648 ≤ u ∧ u ≤ 2147483648 := by
            intro u hu
            simp only [List.mem_cons, List.not_mem_nil, or_false] at hu
            rcases hu with rfl | rfl | rfl | rfl <;> omega
          have HLN := Lib.hid hln
          have HNUM := Lib.hid hnum
          have hbwV := (Below.refl wr.heap.size wr).alloc (Nat.le_refl _) (.cells #[.int .i64 m.link, .int .i64 m.mass, .int .i64 m.x, .int .i64 m.y, .int .i64 m.z] 74)
          have HBV := Lib.hid (bl_next hbwV HB.out)
          have HBW := Lib.hid hbwV
          have hRb := (HR.out.below hb2 (by omega)).below hbwV (by omega)
          have r0 := hRb.c0
          have r1 := hRb.c1
          have hM : (wr.alloc (.cells #[.int .i64 m.link, .int .i64 m.mass, .int .i64 m.x, .int .i64 m.y, .int .i64 m.z] 74)).heap[wr.heap.size]? = some (.cells #[.int .i64 m.link, .int .i64 m.mass, .int .i64 m.x, .int .i64 m.y, .int .i64 m.z] 74 (0, 0)) := heap_alloc_new _ _
          have m0 := cell_of_row _ _ 0 _ _ _ hM
          have m1 := cell_of_row _ _ 1 _ _ _ hM
          have m2 := cell_of_row _ _ 2 _ _ _ hM
          have m3 := cell_of_row _ _ 3 _ _ _ hM
          have m4 := cell_of_row _ _ 4 _ _ _ hM
          simp only [List.getElem?_toArray, List.getElem?_cons_zero, List.getElem?_cons_succ] at m0 m1 m2 m3 m4
          clear hat hb2 hRb hme hmo hln hnum hbwV hM
          go_wp2_with fail
          refine (massSt_any js _ _ m ln js[ln] _ (HT.out.next HBV.out) (HD.out.rj.below HBV.out (Nat.le_refl _)) HLN.out hlnl rfl HNUM.out (by omega)).mono ?_
          rintro e w5 ⟨va, bs, rfl, hown5, hl5, hn5, hb5⟩
          obtain ⟨qa, ka, ca, rfl⟩ := own_slc hown5
          have HBU5 := Lib.hid (bl_next hb5 HBV.out)
          have HO5 := Lib.hid hown5
          have HL5 := Lib.hid hl5
          have HN5 := Lib.hid hn5
          have HS5 := Lib.hid (HO.out.next (bl_next hb5 HBW.out))
          have hs5 := HBU5.out.size
          have hVs : U.heap.size ≤ (wr.alloc (.cells #[.int .i64 m.link, .int .i64 m.mass, .int .i64 m.x, .int .i64 m.y, .int .i64 m.z] 74)).heap.size := HBV.out.size
          have HOA := Lib.hid (HS5.out.2.1.alloc (.cells #[.int .i64 0, .string ⟨#[109, 97, 115, 115]⟩, .slice qa ka ca] 43))
          clear hown5 hl5 hn5 hb5 c0 c1 c2 c3 c4 r0 r1 m0 m1 m2 m3 m4
          go_wp2_with (first | (at_builtin; refine wpList_append_own _ rfl (.tmp 35) (.tmp 39) 33 rfl U.heap.size 43 i0 (.agg #[.int .i64 0, .string ⟨#[]⟩, .slice none 0 0]) 3 48 under_sts HI.out HZ0.out HZ1.out HZ2.out rfl (by decide) _ l2.length (stcells l2 vals2) rfl HOA.out ⟨w5.heap.size, 0, none⟩ 1 1 [.int .i64 0, .string ⟨#[109, 97, 115, 115]⟩, .slice qa ka ca] rfl rfl (newsS w5 _ _ _ _) (fun u hu => by simp at hu; rcases hu with rfl | rfl | rfl <;> rfl) (by unfold maxLen; omega) (by omega) (by simp; omega) ?_) | fail)
          intro v' w7 hown7 hgrow7 _
          obtain ⟨q7, k7, c7, rfl⟩ := own_slc hown7
          have HP := Lib.hid (OutS.push (g := ⟨0, ⟨#[109, 97, 115, 115]⟩, _⟩) HS5.out (owns_base HO5.out hVs) hown7 hgrow7)
          have HBF := Lib.hid ((HBU5.out.alloc hs5 _).grown hgrow7 (by simp; omega) (fun jj hj => (HO.out.2.1.lt jj hj).1))
          have HWN := Lib.hid (HW.out.mass hlt2 HME.out (mk_WM HG.out hlnl HLN.out HL5.out HN5.out 0))
          clear hown7 hgrow7 HOA
          go_wp2_with fail
          go_roundw
          case rel => exact ⟨k2 + 1, _, _, by go_num, hlt2, HP.out, HWN.out, HBF.out⟩
          case measure => simp [intOf]; omega
        · have hke : k2 = ms.length := by omega
          subst hke
          obtain rfl := own_count HO.out.2.1
          clear hb2 hlt2 hkl2
          go_wp2_with fail
          obtain ⟨wo2, hwo2⟩ : ∃ wo, wo = wr := ⟨_, rfl⟩
          subst hwo2
          go_loopw [44] (fun i wr => ∃ (k3 : Nat) (l3 : List St), i = .int .i64 k3 ∧ k3 ≤ l2.length ∧ OutS U.heap.size wr (.slice q6 l2.length c6x) l3 vals2 ∧ SameW l2 l3 ∧ Below U.heap.size U wr) (fun i _ => l2.length - (intOf i).toNat)
          case atStart => exact ⟨0, l2, rfl, Nat.zero_le _, HO.out, rfl, HB.out⟩
          case round =>
            obtain ⟨k3, l3, rfl, hkl3, hout3, hsame, hb3⟩ := hrel
            have HO3 := Lib.hid hout3
            have HS3 := Lib.hid hsame
            have HB3 := Lib.hid hb3
            by_cases hlt3 : k3 < l2.length
            · have hl3 := hsame.len
              have hlt4 : k3 < l3.length := by omega
              obtain ⟨g, cap, e1⟩ := own_form hout3.2.1 (by omega)
              injection e1 with e1 _ e2
              subst e1 e2
              have hrow := hout3.2.1
              rw [← hl3] at hrow HO3
              have hfz := hrow.frozenAt (k3 * 3)
              have hcl := hrow.cellAt (k3 * 3) (by omega)
              rw [(stcells_at hout3.1 k3 hlt4).1] at hcl
              have HNX := Lib.hid (HO3.out.line rfl k3 hlt4 ((k3 : Int) + 1))
              have HSX := Lib.hid (hsame.set hlt4 ((k3 : Int) + 1))
              have hgU : U.heap.size ≤ g := (hrow.lt g rfl).1
              have HBX := Lib.hid (Below.setCell hb3 (show U.heap.size ≤ (⟨g, k3 * 3, none⟩ : Addr).block from hgU) (.int .i64 ((k3 : Int) + 1)))
              rw [hl3] at HNX
              clear hout3 hsame hb3 hrow HO3 hl3
              go_wp2_with fail
              go_roundw
              case rel => exact ⟨k3 + 1, _, by go_num, hlt3, HNX.out, HSX.out, HBX.out⟩
              case measure => simp [intOf]; omega
            · clear hout3 hsame hb3
              go_wp2_with fail
              go_ret
              exact ⟨_, l3, vals2, rfl, ⟨HO3.out.1, owns_base HO3.out.2.1 (by omega), fun k hk => owns_base (HO3.out.2.2 k hk) (by omega)⟩, HW.out.same HS3.out, bl_next HB3.out HB0.out⟩
end Go.Proofs.YtpaiapcnoifpmaaDoor
