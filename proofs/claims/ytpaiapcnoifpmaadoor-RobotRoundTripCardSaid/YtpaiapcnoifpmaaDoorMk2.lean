/- Proved: the maker of robots returns some robot of moderate size, in memory of its own. Conditions: as each theorem states. -/
import Derived.Test.YtpaiapcnoifpmaaDoorMk1
import Derived.Test.YtpaiapcnoifpmaaDoorSy4
import Derived.OwnWalk
import Derived.Deep.RegionHeld3
namespace Go.Proofs.YtpaiapcnoifpmaaDoor
open Go.RowKit

structure MassD where
  link : Int
  mass : Int
  x : Int
  y : Int
  z : Int
def massC (m : MassD) : Array Value := #[.int .i64 m.link, .int .i64 m.mass, .int .i64 m.x, .int .i64 m.y, .int .i64 m.z]
def jcells (l : List JointD) : List Value := l.flatMap (fun j => (jointC j).toList)
def mcells (l : List MassD) : List Value := l.flatMap (fun m => (massC m).toList)
theorem jcells_snoc (l : List JointD) (j : JointD) : jcells (l ++ [j]) = jcells l ++ (jointC j).toList := by simp [jcells]
theorem mcells_snoc (l : List MassD) (j : MassD) : mcells (l ++ [j]) = mcells l ++ (massC j).toList := by simp [mcells]
/-- A block that holds a robot's two slices. -/
def RobAt (W : World) (q : Nat) (vj vm : Value) : Prop := W.heap[q]? = some (.cells #[vj, vm] 25 (0, 0))
theorem RobAt.c0 {W : World} {q : Nat} {vj vm : Value} (h : RobAt W q vj vm) : W.cell? ⟨q, 0, none⟩ = some vj := cell_of_row W q 0 _ _ _ h
theorem RobAt.c1 {W : World} {q : Nat} {vj vm : Value} (h : RobAt W q vj vm) : W.cell? ⟨q, 1, none⟩ = some vm := cell_of_row W q 1 _ _ _ h
theorem RobAt.free {W : World} {q : Nat} {vj vm : Value} (h : RobAt W q vj vm) (k : Nat) : W.frozen? ⟨q, k, none⟩ = false := frozen_of_row W q k _ _ h
theorem RobAt.at_new {V : World} {q : Nat} {vj vm : Value} (h : V.heap.size = q) : RobAt (V.alloc (.cells #[vj, vm] 25)) q vj vm := by subst h; exact heap_alloc_new _ _
theorem RobAt.lt {W : World} {q : Nat} {vj vm : Value} (h : RobAt W q vj vm) : q < W.heap.size := lt_of_block h
theorem But.to_grown {b : Nat} {w w' : World} (h : But b w w') : w.grownBy w' (some b) := ⟨h.os, h.tape, h.output, h.size, fun k hk hne => h.block k hk (fun e => hne (by rw [e]))⟩
theorem But.by_grown {b : Nat} {u w w' : World} {row : Option Nat} (h : But b u w) (hg : w.grownBy w' row) (hr : ∀ k, row = some k → u.heap.size ≤ k) : But b u w' :=
  ⟨hg.os.trans h.os, hg.tape.trans h.tape, hg.output.trans h.output, Nat.le_trans h.size hg.size, fun i hi hb =>
    (hg.block i (Nat.lt_of_lt_of_le hi h.size) (fun e => by have := hr i e.symm; omega)).trans (h.block i hi hb)⟩
theorem Src.by_grown {B b : Nat} {w w' : World} {row : Option Nat} (h : Src B w b) (hg : w.grownBy w' row) (hr : ∀ k, row = some k → b < k ∧ B ≤ k) : Src B w' b := by
  obtain ⟨ao, n, cap, j, h1, h2, h3, h4, h5⟩ := h
  refine ⟨ao, n, cap, j, (hg.block b (lt_of_block h1) (fun e => by have := (hr b e.symm).1; omega)).trans h1, h2, h3, h4, fun t ht => ?_⟩
  obtain ⟨lb, lo, z, e, hl, hz, z1, z2⟩ := h5 t ht
  exact ⟨lb, lo, z, e, hl, by rw [World.cell?_of_block (w := w) (hg.block lb (World.block_lt_of_cell? w _ hz) (fun e => by have := (hr lb e.symm).2; omega))]; exact hz, z1, z2⟩
theorem own_but {w w' : World} {base b : Nat} {e : TypeId} {size : Nat} {v : Value} {n : Nat} {xs : List Value} (h : w.ownsRow base e size v n xs) (hb : But b w w') (hlt : b < base) : w'.ownsRow base e size v n xs :=
  h.kept hb.to_grown (by
    cases ho : v.ownBlock with
    | none => exact .inl rfl
    | some k => right; have := (h.lt k ho).1; intro e; injection e with e; omega)
theorem all_snoc {α : Type} {P : Nat → α → Prop} {l : List α} {x : α} (h : ∀ k (hk : k < l.length), P k l[k]) (hx : P l.length x) : ∀ k (hk : k < (l ++ [x]).length), P k (l ++ [x])[k] := by
  intro k hk
  rcases Nat.lt_or_ge k l.length with h1 | h1
  · rw [List.getElem_append_left h1]; exact h k h1
  · have : k = l.length := by simp at hk; omega
    subst this
    simpa using hx
/-- What the maker makes of masses. -/
def MadeM (n : Nat) (m : MassD) : Prop := (0 ≤ m.link ∧ m.link < n) ∧ (1 ≤ m.mass ∧ m.mass ≤ 9000) ∧ (-98304 ≤ m.x ∧ m.x ≤ 98304) ∧ m.y = 0 ∧ (-65536 ≤ m.z ∧ m.z ≤ 65536)
/-- What is known while a robot is made. -/
structure PR (B b : Nat) (w : World) (W : World) (js : List JointD) (ms : List MassD) (vj vm : Value) : Prop where
  src : Src B W b
  bt : But b w W
  rob : RobAt W (w.heap.size + 1) vj vm
  re : RobAt W w.heap.size (.slice none 0 0) (.slice none 0 0)
  oj : W.ownsRow (w.heap.size + 2) 60 12 vj js.length (jcells js)
  om : W.ownsRow (w.heap.size + 2) 74 5 vm ms.length (mcells ms)
  bw : b < w.heap.size
  Bb : B ≤ b
theorem PR.drew {B b : Nat} {w W : World} {js : List JointD} {ms : List MassD} {vj vm : Value} (h : PR B b w W js ms vj vm) : PR B b w W.drew js ms vj vm :=
  ⟨h.src, h.bt.drew, h.rob, h.re, h.oj, h.om, h.bw, h.Bb⟩
theorem PR.next {B b : Nat} {w W V : World} {js : List JointD} {ms : List MassD} {vj vm : Value} (h : PR B b w W js ms vj vm) (hs : Src B V b) (hb : But b W V) : PR B b w V js ms vj vm := by
  have h1 := h.bw
  exact ⟨hs, h.bt.trans hb, (hb.block _ h.rob.lt (by omega)).trans h.rob, (hb.block _ h.re.lt (by omega)).trans h.re, own_but h.oj hb (by omega), own_but h.om hb (by omega), h1, h.Bb⟩
theorem PR.alloc {B b : Nat} {w W : World} {js : List JointD} {ms : List MassD} {vj vm : Value} (h : PR B b w W js ms vj vm) (o : Obj) : PR B b w (W.alloc o) js ms vj vm :=
  h.next (h.src.mk_alloc o) ((But.refl b W).mk_alloc o)
theorem PR.pushJ {B b : Nat} {w W w1 : World} {js : List JointD} {ms : List MassD} {vj vm v' : Value} {j : JointD} (h : PR B b w W js ms vj vm)
    (hown : w1.ownsRow (w.heap.size + 2) 60 12 v' (js.length + 1) (jcells js ++ (jointC j).toList)) (hg : W.grownBy w1 vj.ownBlock) :
    RobAt w1 (w.heap.size + 1) vj vm ∧ PR B b w (w1.setCell ⟨w.heap.size + 1, 0, none⟩ v') (js ++ [j]) ms v' vm := by
  have h1 := h.bw
  have h2 := h.Bb
  have hr : ∀ k, vj.ownBlock = some k → w.heap.size + 2 ≤ k := fun k hk => (h.oj.lt k hk).1
  have rob1 : RobAt w1 (w.heap.size + 1) vj vm := (hg.block _ h.rob.lt (fun e => by have := hr _ e.symm; omega)).trans h.rob
  have re1 : RobAt w1 w.heap.size (.slice none 0 0) (.slice none 0 0) := (hg.block _ h.re.lt (fun e => by have := hr _ e.symm; omega)).trans h.re
  have om1 := h.om.kept hg (own_apart h.om h.oj (by decide))
  have bt1 := h.bt.by_grown hg (fun k hk => by have := hr k hk; omega)
  have s1 := h.src.by_grown hg (fun k hk => by have := hr k hk; omega)
  have hz := rob1.lt
  refine ⟨rob1, s1.mk_set (by omega) (by omega) (by omega), bt1.mk_far (by omega), ?_, ?_, ?_, ownsRow_setCell_below om1 (by show w.heap.size + 1 < _; omega) _, h1, h2⟩
  · exact heap_setCell_same w1 (w.heap.size + 1) 0 _ _ v' rob1
  · exact (heap_setCell_other _ _ _ _ (by dsimp only; omega)).trans re1
  · rw [List.length_append, jcells_snoc]
    exact ownsRow_setCell_below hown (by show w.heap.size + 1 < _; omega) _
theorem PR.pushM {B b : Nat} {w W w1 : World} {js : List JointD} {ms : List MassD} {vj vm v' : Value} {m : MassD} (h : PR B b w W js ms vj vm)
    (hown : w1.ownsRow (w.heap.size + 2) 74 5 v' (ms.length + 1) (mcells ms ++ (massC m).toList)) (hg : W.grownBy w1 vm.ownBlock) :
    RobAt w1 (w.heap.size + 1) vj vm ∧ PR B b w (w1.setCell ⟨w.heap.size + 1, 1, none⟩ v') js (ms ++ [m]) vj v' := by
  have h1 := h.bw
  have h2 := h.Bb
  have hr : ∀ k, vm.ownBlock = some k → w.heap.size + 2 ≤ k := fun k hk => (h.om.lt k hk).1
  have rob1 : RobAt w1 (w.heap.size + 1) vj vm := (hg.block _ h.rob.lt (fun e => by have := hr _ e.symm; omega)).trans h.rob
  have re1 : RobAt w1 w.heap.size (.slice none 0 0) (.slice none 0 0) := (hg.block _ h.re.lt (fun e => by have := hr _ e.symm; omega)).trans h.re
  have oj1 := h.oj.kept hg (own_apart h.oj h.om (by decide))
  have bt1 := h.bt.by_grown hg (fun k hk => by have := hr k hk; omega)
  have s1 := h.src.by_grown hg (fun k hk => by have := hr k hk; omega)
  have hz := rob1.lt
  refine ⟨rob1, s1.mk_set (by omega) (by omega) (by omega), bt1.mk_far (by omega), ?_, ?_, ownsRow_setCell_below oj1 (by show w.heap.size + 1 < _; omega) _, ?_, h1, h2⟩
  · exact heap_setCell_same w1 (w.heap.size + 1) 1 _ _ v' rob1
  · exact (heap_setCell_other _ _ _ _ (by dsimp only; omega)).trans re1
  · rw [List.length_append, mcells_snoc]
    exact ownsRow_setCell_below hown (by show w.heap.size + 1 < _; omega) _
theorem info_rob : (Tryd.prog.info? 25).map (·.size) = some 2 := by kernel_rfl
theorem under_rob : Tryd.prog.underlying 25 = some (.struct (Tryd.prog.fieldsOf 25)) := by kernel_rfl
theorem PR.ones {B b : Nat} {w W : World} {js : List JointD} {ms : List MassD} {vj vm : Value} (h : PR B b w W js ms vj vm) : (#[vj, vm] : Array Value).all (·.oneCell') = true := by
  simp [own_one h.oj, own_one h.om]
theorem own_setRow {w : World} {base q : Nat} {e : TypeId} {size : Nat} {v : Value} {n : Nat} {xs : List Value} {c : Array Value} (h : w.ownsRow base e size v n xs) (hq : q < base) : (w.setRow q c).ownsRow base e size v n xs :=
  own_but h But.mk_own hq
theorem PR.done {B b : Nat} {w W : World} {js : List JointD} {ms : List MassD} {vj vm : Value} (h : PR B b w W js ms vj vm) :
    (W.setRow w.heap.size #[vj, vm]).ownsRow (w.heap.size + 2) 60 12 vj js.length (jcells js) ∧ (W.setRow w.heap.size #[vj, vm]).ownsRow (w.heap.size + 2) 74 5 vm ms.length (mcells ms) ∧ Src B (W.setRow w.heap.size #[vj, vm]) b ∧ But b w (W.setRow w.heap.size #[vj, vm]) := by
  have h1 := h.bw
  have h2 := h.Bb
  have h3 := h.re.lt
  exact ⟨own_setRow h.oj (by omega), own_setRow h.om (by omega), h.src.mk_row (by omega) (by omega) (by omega), h.bt.mk_row (Nat.le_refl _)⟩
theorem info_jointA : (Tryd.prog.info? 60).map (fun i => (i.zero, i.size, i.bytes)) = some (some (.agg (jointC zeroJ)), 12, 104) := by kernel_rfl
theorem under_joints : Tryd.prog.underlying 22 = some (.slice 60) := by kernel_rfl
theorem info_mass : (Tryd.prog.info? 74).map (fun i => (i.zero, i.size, i.bytes)) = some (some (.agg (massC ⟨0, 0, 0, 0, 0⟩)), 5, 40) := by kernel_rfl
theorem under_masses : Tryd.prog.underlying 23 = some (.slice 74) := by kernel_rfl
theorem joint_news (W : World) (j : JointD) : ∀ k u, (jointC j).toList[k]? = some u → (W.alloc (.cells (jointC j) 60)).cell? ((⟨W.heap.size, 0, none⟩ : Addr).add k) = some u := by
  intro k u hu
  have : (⟨W.heap.size, 0, none⟩ : Addr).add k = ⟨W.heap.size, k, none⟩ := by unfold Addr.add; split <;> simp_all
  rw [this, cell_of_row _ _ _ _ _ _ (heap_alloc_new _ _)]
  simpa using hu
theorem joint_ones (j : JointD) : ∀ u ∈ (jointC j).toList, u.oneCell' = true := by
  intro u hu
  have := joint_one j
  rw [Array.all_eq_true_iff_forall_mem] at this
  exact this u (by simpa using hu)
theorem mass_news (W : World) (j : MassD) : ∀ k u, (massC j).toList[k]? = some u → (W.alloc (.cells (massC j) 74)).cell? ((⟨W.heap.size, 0, none⟩ : Addr).add k) = some u := by
  intro k u hu
  have : (⟨W.heap.size, 0, none⟩ : Addr).add k = ⟨W.heap.size, k, none⟩ := by unfold Addr.add; split <;> simp_all
  rw [this, cell_of_row _ _ _ _ _ _ (heap_alloc_new _ _)]
  simpa using hu
theorem mass_ones (j : MassD) : ∀ u ∈ (massC j).toList, u.oneCell' = true := by
  intro u hu
  simp [massC] at hu
  rcases hu with rfl | rfl | rfl | rfl | rfl <;> rfl
set_option linter.unusedSimpArgs false in
set_option linter.unusedVariables false in
set_option maxRecDepth 100000 in
set_option maxHeartbeats 12800000 in
theorem robot_any (B b : Nat) (w : World) (hs : Src B w b) (bw : b < w.heap.size) (Bb : B ≤ b) :
    Calls Tryd.prog 27 #[ .pointer (some ⟨b, 0, none⟩) ] w fun e w' => ∃ (js : List JointD) (ms : List MassD) (vj vm : Value), e = .returned (.agg #[vj, vm]) ∧ w'.ownsRow (w.heap.size + 2) 60 12 vj js.length (jcells js) ∧
      w'.ownsRow (w.heap.size + 2) 74 5 vm ms.length (mcells ms) ∧ (1 ≤ js.length ∧ js.length ≤ 3) ∧ (∀ k (h : k < js.length), MadeJ k js[k]) ∧ ms.length ≤ 2 ∧ (∀ k (h : k < ms.length), MadeM js.length ms[k]) ∧ Src B w' b ∧ But b w w' := by
  have HP := Lib.hid (show PR B b w ((w.alloc (.cells #[.slice none 0 0, .slice none 0 0] 25)).alloc (.cells #[.slice none 0 0, .slice none 0 0] 25)) [] [] (.slice none 0 0) (.slice none 0 0) from
    ⟨(hs.mk_alloc _).mk_alloc _, ((But.refl b w).mk_alloc _).mk_alloc _, RobAt.at_new (by simp), (Below.heap_alloc _ _ _ (by simp)).trans (heap_alloc_new _ _), World.ownsRow_nil _ _ _ _, World.ownsRow_nil _ _ _ _, bw, Bb⟩)
  obtain ⟨i0, hi, hz0, hz1, hz2⟩ := info_parts info_jointA
  have HI := Lib.hid hi
  have HZ0 := Lib.hid hz0
  have HZ1 := Lib.hid hz1
  have HZ2 := Lib.hid hz2
  clear hi hz0 hz1 hz2
  obtain ⟨i1, hi, hz0, hz1, hz2⟩ := info_parts info_mass
  have MI := Lib.hid hi
  have MZ0 := Lib.hid hz0
  have MZ1 := Lib.hid hz1
  have MZ2 := Lib.hid hz2
  clear hs hi hz0 hz1 hz2
  go_enter Tryd.func27, Tryd.ntmps27
  go_wp2_with fail
  refine (Next_any B b 3 _ HP.out.src (by omega) (by omega)).mono ?_
  rintro e w' ⟨r, r0, r1, rfl, hs, hbut⟩
  have HP2 := Lib.hid (HP.out.next hs hbut); clear HP; have HP := HP2; clear HP2 hs hbut
  obtain ⟨n, hn⟩ : ∃ n : Nat, 1 + r = n := ⟨(1 + r).toNat, by omega⟩
  have n1 : 1 ≤ n := by omega
  have n3 : n ≤ 3 := by omega
  go_wp2_with fail
  clear hn r0 r1
  go_loopw [5] (fun i wr => ∃ (k : Nat) (js : List JointD) (vj : Value), k ≤ n ∧ i = .int .i64 k ∧ js.length = k ∧ (∀ k (h : k < js.length), MadeJ k js[k]) ∧ PR B b w wr js [] vj (.slice none 0 0)) (fun i _ => n - (intOf i).toNat)
  case atStart => exact ⟨0, [], _, by omega, rfl, rfl, fun k h => absurd h (by simp), HP.out⟩
  case round =>
    obtain ⟨k, js, vj, hk, rfl, hjl, hall, hp⟩ := hrel
    clear HP
    have HALL := Lib.hid hall
    clear hall
    by_cases hlt : k < n
    · have HP := Lib.hid hp.drew
      clear hp
      have c0 := HP.out.rob.c0
      have HJL := Lib.hid hjl
      have hjl3 : js.length ≤ 3 := by omega
      clear hjl
      go_wp2_with fail
      refine wp_region_held_drew (S := (fun _ => True)) (by kernel_rfl) ?_ (fun hHeld => ?_)
      focus (exact trivial)
      refine wpAnyH_take (i := 0) (v := ?_) rfl (by kernel_rfl) (by kernel_rfl) (by kernel_rfl) (fun _ _ _ h => h) (Or.inl ⟨by rfl, ?_⟩) (by assumption) ?_; rotate_left; (focus (intro w hSw; (try dsimp only at hSw); go_simp; try with_reducible rfl)); (try simp only [Act.put, List.getElem_toArray, List.getElem_cons_succ, List.getElem_cons_zero, List.setIfInBounds_toArray, List.set_cons_zero, List.set_cons_succ])
      refine wpAnyH_take (i := 2) (v := ?_) rfl (by kernel_rfl) (by kernel_rfl) (by kernel_rfl) (fun _ _ _ h => h) (Or.inl ⟨by rfl, ?_⟩) (by assumption) ?_; rotate_left; (focus (intro w hSw; (try dsimp only at hSw); go_simp; try with_reducible rfl)); (try simp only [Act.put, List.getElem_toArray, List.getElem_cons_succ, List.getElem_cons_zero, List.setIfInBounds_toArray, List.set_cons_zero, List.set_cons_succ])
      refine wpAnyH_take (i := 3) (v := ?_) rfl (by kernel_rfl) (by kernel_rfl) (by kernel_rfl) (fun _ _ _ h => h) (Or.inl ⟨by rfl, ?_⟩) (by assumption) ?_; rotate_left; (focus (intro w hSw; (try dsimp only at hSw); go_simp; try with_reducible rfl)); (try simp only [Act.put, List.getElem_toArray, List.getElem_cons_succ, List.getElem_cons_zero, List.setIfInBounds_toArray, List.set_cons_zero, List.set_cons_succ])
      refine wpAnyH_ready (rs := [1, 4]) (by kernel_rfl) (by simp) (AllReadyH.cons rfl (fun K hK => ?_) (AllReadyH.cons rfl (fun K hK => ?_) (AllReadyH.nil)))
      · go_simp; refine hK.out _ _ ?_ (fun hHeld => ?_); (focus (exact trivial)); clear hK K; (try simp only [Act.put, List.getElem_toArray, List.getElem_cons_succ, List.getElem_cons_zero, List.setIfInBounds_toArray, List.set_cons_zero, List.set_cons_succ])
        refine wpAnyH_ready (rs := [4]) (by kernel_rfl) (by simp) (AllReadyH.cons rfl (fun K hK => ?_) (AllReadyH.nil))
        go_simp; ((go_at_call 59; refine (joint_any B b k _ HP.out.src (by have := HP.out.bt.size; have := HP.out.bw; omega) HP.out.Bb (by omega) _ rfl).mono ?_; rintro e w' ⟨j, rfl, hmade, hs, hbut⟩; simp only [jointC]; have HM := Lib.hid hmade; clear hmade c0; have HP2 := Lib.hid (HP.out.next hs hbut); clear HP; have HP := HP2; clear HP2 hs hbut; have c0 := HP.out.rob.c0)); go_wp2_with fail; refine hK.out _ _ ?_ (fun hHeld => ?_); (focus (exact trivial)); clear hK K; (try simp only [Act.put, List.getElem_toArray, List.getElem_cons_succ, List.getElem_cons_zero, List.setIfInBounds_toArray, List.set_cons_zero, List.set_cons_succ])
        refine wpAnyH_ready (rs := [5]) (by kernel_rfl) (by simp) (AllReadyH.cons rfl (fun K hK => ?_) (AllReadyH.nil))
        go_simp; refine hK.out _ _ ?_ (fun hHeld => ?_); (focus (exact trivial)); clear hK K; (try simp only [Act.put, List.getElem_toArray, List.getElem_cons_succ, List.getElem_cons_zero, List.setIfInBounds_toArray, List.set_cons_zero, List.set_cons_succ]); have HP2 := Lib.hid (HP.out.alloc (.cells (jointC j) 60)); clear HP c0; have HP := HP2; clear HP2; have c0 := HP.out.rob.c0; simp only [jointC] at c0
        refine wpAnyH_ready (rs := [6]) (by kernel_rfl) (by simp) (AllReadyH.cons rfl (fun K hK => ?_) (AllReadyH.nil))
        rw [if_pos (by rfl)]; refine wp_append_own _ (.tmp 16) (.tmp 20) 22 rfl (w.heap.size + 2) 60 i0 (.agg (jointC zeroJ)) 12 104 under_joints HI.out HZ0.out HZ1.out HZ2.out rfl (by decide) _ js.length (jcells js) rfl HP.out.oj ⟨_, 0, none⟩ 1 1 (jointC j).toList rfl (by rfl) (joint_news _ j) (joint_ones j) (by unfold maxLen; omega) (by omega) HP.out.rob.lt ?_; intro v' w1 hown' hgrow _; obtain ⟨g, cap, rfl⟩ := own_form hown' (by omega); obtain ⟨hrob, hpush⟩ := HP.out.pushJ hown' hgrow; clear HP c0 hown' hgrow; have HP := Lib.hid hpush; have c0 := hrob.c0; have f0 := hrob.free 0; clear hpush hrob; refine hK.out _ _ ?_ (fun hHeld => ?_); (focus (exact trivial)); clear hK K; (try simp only [Act.put, List.getElem_toArray, List.getElem_cons_succ, List.getElem_cons_zero, List.setIfInBounds_toArray, List.set_cons_zero, List.set_cons_succ])
        refine wpAnyH_take (i := 7) (v := ?_) rfl (by kernel_rfl) (by kernel_rfl) (by kernel_rfl) (fun _ _ _ h => h) (Or.inl ⟨by rfl, ?_⟩) (by assumption) ?_; rotate_left; (focus (intro w hSw; (try dsimp only at hSw); go_simp; try with_reducible rfl)); (try simp only [Act.put, List.getElem_toArray, List.getElem_cons_succ, List.getElem_cons_zero, List.setIfInBounds_toArray, List.set_cons_zero, List.set_cons_succ])
        refine wpAnyH_ready (rs := [8]) (by kernel_rfl) (by simp) (AllReadyH.cons rfl (fun K hK => ?_) (AllReadyH.nil))
        go_simp; refine hK.out _ _ ?_ (fun hHeld => ?_); (focus (exact trivial)); clear hK K; (try simp only [Act.put, List.getElem_toArray, List.getElem_cons_succ, List.getElem_cons_zero, List.setIfInBounds_toArray, List.set_cons_zero, List.set_cons_succ])
        refine wpAnyH_done (by kernel_rfl) ?_ _
        go_wp2_with fail
        go_roundw
        case rel => exact ⟨k + 1, js ++ [j], _, by omega, by go_num, by rw [List.length_append, HJL.out]; rfl, all_snoc HALL.out (by rw [HJL.out]; exact HM.out), HP.out⟩
        case measure => simp [intOf]; omega
      · go_simp; ((go_at_call 59; refine (joint_any B b k _ HP.out.src (by have := HP.out.bt.size; have := HP.out.bw; omega) HP.out.Bb (by omega) _ rfl).mono ?_; rintro e w' ⟨j, rfl, hmade, hs, hbut⟩; simp only [jointC]; have HM := Lib.hid hmade; clear hmade c0; have HP2 := Lib.hid (HP.out.next hs hbut); clear HP; have HP := HP2; clear HP2 hs hbut; have c0 := HP.out.rob.c0)); go_wp2_with fail; refine hK.out _ _ ?_ (fun hHeld => ?_); (focus (exact trivial)); clear hK K; (try simp only [Act.put, List.getElem_toArray, List.getElem_cons_succ, List.getElem_cons_zero, List.setIfInBounds_toArray, List.set_cons_zero, List.set_cons_succ])
        refine wpAnyH_ready (rs := [1, 5]) (by kernel_rfl) (by simp) (AllReadyH.cons rfl (fun K hK => ?_) (AllReadyH.cons rfl (fun K hK => ?_) (AllReadyH.nil)))
        · go_simp; refine hK.out _ _ ?_ (fun hHeld => ?_); (focus (exact trivial)); clear hK K; (try simp only [Act.put, List.getElem_toArray, List.getElem_cons_succ, List.getElem_cons_zero, List.setIfInBounds_toArray, List.set_cons_zero, List.set_cons_succ])
          refine wpAnyH_ready (rs := [5]) (by kernel_rfl) (by simp) (AllReadyH.cons rfl (fun K hK => ?_) (AllReadyH.nil))
          go_simp; refine hK.out _ _ ?_ (fun hHeld => ?_); (focus (exact trivial)); clear hK K; (try simp only [Act.put, List.getElem_toArray, List.getElem_cons_succ, List.getElem_cons_zero, List.setIfInBounds_toArray, List.set_cons_zero, List.set_cons_succ]); have HP2 := Lib.hid (HP.out.alloc (.cells (jointC j) 60)); clear HP c0; have HP := HP2; clear HP2; have c0 := HP.out.rob.c0; simp only [jointC] at c0
          refine wpAnyH_ready (rs := [6]) (by kernel_rfl) (by simp) (AllReadyH.cons rfl (fun K hK => ?_) (AllReadyH.nil))
          rw [if_pos (by rfl)]; refine wp_append_own _ (.tmp 16) (.tmp 20) 22 rfl (w.heap.size + 2) 60 i0 (.agg (jointC zeroJ)) 12 104 under_joints HI.out HZ0.out HZ1.out HZ2.out rfl (by decide) _ js.length (jcells js) rfl HP.out.oj ⟨_, 0, none⟩ 1 1 (jointC j).toList rfl (by rfl) (joint_news _ j) (joint_ones j) (by unfold maxLen; omega) (by omega) HP.out.rob.lt ?_; intro v' w1 hown' hgrow _; obtain ⟨g, cap, rfl⟩ := own_form hown' (by omega); obtain ⟨hrob, hpush⟩ := HP.out.pushJ hown' hgrow; clear HP c0 hown' hgrow; have HP := Lib.hid hpush; have c0 := hrob.c0; have f0 := hrob.free 0; clear hpush hrob; refine hK.out _ _ ?_ (fun hHeld => ?_); (focus (exact trivial)); clear hK K; (try simp only [Act.put, List.getElem_toArray, List.getElem_cons_succ, List.getElem_cons_zero, List.setIfInBounds_toArray, List.set_cons_zero, List.set_cons_succ])
          refine wpAnyH_take (i := 7) (v := ?_) rfl (by kernel_rfl) (by kernel_rfl) (by kernel_rfl) (fun _ _ _ h => h) (Or.inl ⟨by rfl, ?_⟩) (by assumption) ?_; rotate_left; (focus (intro w hSw; (try dsimp only at hSw); go_simp; try with_reducible rfl)); (try simp only [Act.put, List.getElem_toArray, List.getElem_cons_succ, List.getElem_cons_zero, List.setIfInBounds_toArray, List.set_cons_zero, List.set_cons_succ])
          refine wpAnyH_ready (rs := [8]) (by kernel_rfl) (by simp) (AllReadyH.cons rfl (fun K hK => ?_) (AllReadyH.nil))
          go_simp; refine hK.out _ _ ?_ (fun hHeld => ?_); (focus (exact trivial)); clear hK K; (try simp only [Act.put, List.getElem_toArray, List.getElem_cons_succ, List.getElem_cons_zero, List.setIfInBounds_toArray, List.set_cons_zero, List.set_cons_succ])
          refine wpAnyH_done (by kernel_rfl) ?_ _
          go_wp2_with fail
          go_roundw
          case rel => exact ⟨k + 1, js ++ [j], _, by omega, by go_num, by rw [List.length_append, HJL.out]; rfl, all_snoc HALL.out (by rw [HJL.out]; exact HM.out), HP.out⟩
          case measure => simp [intOf]; omega
        · go_simp; refine hK.out _ _ ?_ (fun hHeld => ?_); (focus (exact trivial)); clear hK K; (try simp only [Act.put, List.getElem_toArray, List.getElem_cons_succ, List.getElem_cons_zero, List.setIfInBounds_toArray, List.set_cons_zero, List.set_cons_succ]); have HP2 := Lib.hid (HP.out.alloc (.cells (jointC j) 60)); clear HP c0; have HP := HP2; clear HP2; have c0 := HP.out.rob.c0; simp only [jointC] at c0
          refine wpAnyH_ready (rs := [1]) (by kernel_rfl) (by simp) (AllReadyH.cons rfl (fun K hK => ?_) (AllReadyH.nil))
          go_simp; refine hK.out _ _ ?_ (fun hHeld => ?_); (focus (exact trivial)); clear hK K; (try simp only [Act.put, List.getElem_toArray, List.getElem_cons_succ, List.getElem_cons_zero, List.setIfInBounds_toArray, List.set_cons_zero, List.set_cons_succ])
          refine wpAnyH_ready (rs := [6]) (by kernel_rfl) (by simp) (AllReadyH.cons rfl (fun K hK => ?_) (AllReadyH.nil))
          rw [if_pos (by rfl)]; refine wp_append_own _ (.tmp 16) (.tmp 20) 22 rfl (w.heap.size + 2) 60 i0 (.agg (jointC zeroJ)) 12 104 under_joints HI.out HZ0.out HZ1.out HZ2.out rfl (by decide) _ js.length (jcells js) rfl HP.out.oj ⟨_, 0, none⟩ 1 1 (jointC j).toList rfl (by rfl) (joint_news _ j) (joint_ones j) (by unfold maxLen; omega) (by omega) HP.out.rob.lt ?_; intro v' w1 hown' hgrow _; obtain ⟨g, cap, rfl⟩ := own_form hown' (by omega); obtain ⟨hrob, hpush⟩ := HP.out.pushJ hown' hgrow; clear HP c0 hown' hgrow; have HP := Lib.hid hpush; have c0 := hrob.c0; have f0 := hrob.free 0; clear hpush hrob; refine hK.out _ _ ?_ (fun hHeld => ?_); (focus (exact trivial)); clear hK K; (try simp only [Act.put, List.getElem_toArray, List.getElem_cons_succ, List.getElem_cons_zero, List.setIfInBounds_toArray, List.set_cons_zero, List.set_cons_succ])
          refine wpAnyH_take (i := 7) (v := ?_) rfl (by kernel_rfl) (by kernel_rfl) (by kernel_rfl) (fun _ _ _ h => h) (Or.inl ⟨by rfl, ?_⟩) (by assumption) ?_; rotate_left; (focus (intro w hSw; (try dsimp only at hSw); go_simp; try with_reducible rfl)); (try simp only [Act.put, List.getElem_toArray, List.getElem_cons_succ, List.getElem_cons_zero, List.setIfInBounds_toArray, List.set_cons_zero, List.set_cons_succ])
          refine wpAnyH_ready (rs := [8]) (by kernel_rfl) (by simp) (AllReadyH.cons rfl (fun K hK => ?_) (AllReadyH.nil))
          go_simp; refine hK.out _ _ ?_ (fun hHeld => ?_); (focus (exact trivial)); clear hK K; (try simp only [Act.put, List.getElem_toArray, List.getElem_cons_succ, List.getElem_cons_zero, List.setIfInBounds_toArray, List.set_cons_zero, List.set_cons_succ])
          refine wpAnyH_done (by kernel_rfl) ?_ _
          go_wp2_with fail
          go_roundw
          case rel => exact ⟨k + 1, js ++ [j], _, by omega, by go_num, by rw [List.length_append, HJL.out]; rfl, all_snoc HALL.out (by rw [HJL.out]; exact HM.out), HP.out⟩
          case measure => simp [intOf]; omega
    · have hjn : js.length = n := by omega
      have HJN := Lib.hid hjn
      have HP := Lib.hid hp
      have HJS := Lib.hid HALL.out
      clear hp hjl hk hjn HALL
      go_wp2_with fail
      clear hlt
      refine (Next_any B b 3 _ HP.out.src (by omega) (by omega)).mono ?_
      rintro e w' ⟨q, q0, q1, rfl, hs, hbut⟩
      have HP2 := Lib.hid (HP.out.next hs hbut); clear HP; have HP := HP2; clear HP2 hs hbut
      go_wp2_with fail
      go_loopw [6] (fun i wr => ∃ (c : Int) (ms : List MassD) (vm : Value), 0 ≤ c ∧ ms.length + c ≤ 2 ∧ i = .int .i64 c ∧ (∀ k (h : k < ms.length), MadeM n ms[k]) ∧ PR B b w wr js ms vj vm) (fun i _ => (intOf i).toNat)
      case atStart => exact ⟨q, [], _, q0, by simp; omega, rfl, fun k h => absurd h (by simp), HP.out⟩
      case round =>
        obtain ⟨c, ms, vm, hc0, hcm, rfl, hall, hp⟩ := hrel
        clear HP
        have HALL := Lib.hid hall
        clear hall
        by_cases hlt : 0 < c
        · have HP := Lib.hid hp.drew
          clear hp
          have c1 := HP.out.rob.c1
          go_wp2_with fail
          refine wp_region_held_drew (S := (fun _ => True)) (by kernel_rfl) ?_ (fun hHeld => ?_)
          focus (exact trivial)
          refine wpAnyH_take (i := 0) (v := ?_) rfl (by kernel_rfl) (by kernel_rfl) (by kernel_rfl) (fun _ _ _ h => h) (Or.inl ⟨by rfl, ?_⟩) (by assumption) ?_; rotate_left; (focus (intro w hSw; (try dsimp only at hSw); go_simp; try with_reducible rfl)); (try simp only [Act.put, List.getElem_toArray, List.getElem_cons_succ, List.getElem_cons_zero, List.setIfInBounds_toArray, List.set_cons_zero, List.set_cons_succ])
          refine wpAnyH_take (i := 2) (v := ?_) rfl (by kernel_rfl) (by kernel_rfl) (by kernel_rfl) (fun _ _ _ h => h) (Or.inl ⟨by rfl, ?_⟩) (by assumption) ?_; rotate_left; (focus (intro w hSw; (try dsimp only at hSw); go_simp; try with_reducible rfl)); (try simp only [Act.put, List.getElem_toArray, List.getElem_cons_succ, List.getElem_cons_zero, List.setIfInBounds_toArray, List.set_cons_zero, List.set_cons_succ])
          refine wpAnyH_take (i := 3) (v := ?_) rfl (by kernel_rfl) (by kernel_rfl) (by kernel_rfl) (fun _ _ _ h => h) (Or.inl ⟨by rfl, ?_⟩) (by assumption) ?_; rotate_left; (focus (intro w hSw; (try dsimp only at hSw); go_simp; try with_reducible rfl)); (try simp only [Act.put, List.getElem_toArray, List.getElem_cons_succ, List.getElem_cons_zero, List.setIfInBounds_toArray, List.set_cons_zero, List.set_cons_succ])
          refine wpAnyH_take (i := 5) (v := ?_) rfl (by kernel_rfl) (by kernel_rfl) (by kernel_rfl) (fun _ _ _ h => h) (Or.inl ⟨by rfl, ?_⟩) (by assumption) ?_; rotate_left; (focus (intro w hSw; (try dsimp only at hSw); go_simp; try with_reducible rfl)); (try simp only [Act.put, List.getElem_toArray, List.getElem_cons_succ, List.getElem_cons_zero, List.setIfInBounds_toArray, List.set_cons_zero, List.set_cons_succ])
          refine wpAnyH_take (i := 8) (v := ?_) rfl (by kernel_rfl) (by kernel_rfl) (by kernel_rfl) (fun _ _ _ h => h) (Or.inl ⟨by rfl, ?_⟩) (by assumption) ?_; rotate_left; (focus (intro w hSw; (try dsimp only at hSw); go_simp; try with_reducible rfl)); (try simp only [Act.put, List.getElem_toArray, List.getElem_cons_succ, List.getElem_cons_zero, List.setIfInBounds_toArray, List.set_cons_zero, List.set_cons_succ])
          refine wpAnyH_take (i := 11) (v := ?_) rfl (by kernel_rfl) (by kernel_rfl) (by kernel_rfl) (fun _ _ _ h => h) (Or.inl ⟨by rfl, ?_⟩) (by assumption) ?_; rotate_left; (focus (intro w hSw; (try dsimp only at hSw); go_simp; try with_reducible rfl)); (try simp only [Act.put, List.getElem_toArray, List.getElem_cons_succ, List.getElem_cons_zero, List.setIfInBounds_toArray, List.set_cons_zero, List.set_cons_succ])
          refine wpAnyH_ready (rs := [1, 4]) (by kernel_rfl) (by simp) (AllReadyH.cons rfl (fun K hK => ?_) (AllReadyH.cons rfl (fun K hK => ?_) (AllReadyH.nil)))
          · go_simp; refine hK.out _ _ ?_ (fun hHeld => ?_); (focus (exact trivial)); clear hK K; (try simp only [Act.put, List.getElem_toArray, List.getElem_cons_succ, List.getElem_cons_zero, List.setIfInBounds_toArray, List.set_cons_zero, List.set_cons_succ])
            refine wpAnyH_ready (rs := [4]) (by kernel_rfl) (by simp) (AllReadyH.cons rfl (fun K hK => ?_) (AllReadyH.nil))
            go_simp; ((go_at_call 42; refine (Next_any B b n _ HP.out.src (by omega) (by omega)).mono ?_; rintro e w' ⟨lk, lk0, lk1, rfl, hs, hbut⟩; have HP2 := Lib.hid (HP.out.next hs hbut); clear HP c1; have HP := HP2; clear HP2 hs hbut; have c1 := HP.out.rob.c1)); go_wp2_with fail; refine hK.out _ _ ?_ (fun hHeld => ?_); (focus (exact trivial)); clear hK K; (try simp only [Act.put, List.getElem_toArray, List.getElem_cons_succ, List.getElem_cons_zero, List.setIfInBounds_toArray, List.set_cons_zero, List.set_cons_succ])
            refine wpAnyH_ready (rs := [6]) (by kernel_rfl) (by simp) (AllReadyH.cons rfl (fun K hK => ?_) (AllReadyH.nil))
            go_simp; ((go_at_call 42; refine (Next_any B b 9000 _ HP.out.src (by omega) (by omega)).mono ?_; rintro e w' ⟨m9, m90, m91, rfl, hs, hbut⟩; have HP2 := Lib.hid (HP.out.next hs hbut); clear HP c1; have HP := HP2; clear HP2 hs hbut; have c1 := HP.out.rob.c1; have v1 := IntWalk.i64_in (1 + m9) (by omega))); go_wp2_with fail; refine hK.out _ _ ?_ (fun hHeld => ?_); (focus (exact trivial)); clear hK K; (try simp only [Act.put, List.getElem_toArray, List.getElem_cons_succ, List.getElem_cons_zero, List.setIfInBounds_toArray, List.set_cons_zero, List.set_cons_succ])
            refine wpAnyH_take (i := 7) (v := ?_) rfl (by kernel_rfl) (by kernel_rfl) (by kernel_rfl) (fun _ _ _ h => h) (Or.inl ⟨by rfl, ?_⟩) (by assumption) ?_; rotate_left; (focus (intro w hSw; (try dsimp only at hSw); go_simp; try with_reducible rfl)); (try simp only [Act.put, List.getElem_toArray, List.getElem_cons_succ, List.getElem_cons_zero, List.setIfInBounds_toArray, List.set_cons_zero, List.set_cons_succ])
            refine wpAnyH_ready (rs := [9]) (by kernel_rfl) (by simp) (AllReadyH.cons rfl (fun K hK => ?_) (AllReadyH.nil))
            go_simp; ((go_at_call 44; refine (Signed_any B b 3 _ HP.out.src (by omega) (by omega)).mono ?_; rintro e w' ⟨sx, sx0, sx1, rfl, hs, hbut⟩; have HP2 := Lib.hid (HP.out.next hs hbut); clear HP c1; have HP := HP2; clear HP2 hs hbut; have c1 := HP.out.rob.c1; have v2 := IntWalk.i64_in (sx * 32768) (by omega))); go_wp2_with fail; refine hK.out _ _ ?_ (fun hHeld => ?_); (focus (exact trivial)); clear hK K; (try simp only [Act.put, List.getElem_toArray, List.getElem_cons_succ, List.getElem_cons_zero, List.setIfInBounds_toArray, List.set_cons_zero, List.set_cons_succ])
            refine wpAnyH_take (i := 10) (v := ?_) rfl (by kernel_rfl) (by kernel_rfl) (by kernel_rfl) (fun _ _ _ h => h) (Or.inl ⟨by rfl, ?_⟩) (by assumption) ?_; rotate_left; (focus (intro w hSw; (try dsimp only at hSw); go_simp; try with_reducible rfl)); (try simp only [Act.put, List.getElem_toArray, List.getElem_cons_succ, List.getElem_cons_zero, List.setIfInBounds_toArray, List.set_cons_zero, List.set_cons_succ])
            refine wpAnyH_ready (rs := [12]) (by kernel_rfl) (by simp) (AllReadyH.cons rfl (fun K hK => ?_) (AllReadyH.nil))
            go_simp; ((go_at_call 44; refine (Signed_any B b 2 _ HP.out.src (by omega) (by omega)).mono ?_; rintro e w' ⟨sz, sz0, sz1, rfl, hs, hbut⟩; have HP2 := Lib.hid (HP.out.next hs hbut); clear HP c1; have HP := HP2; clear HP2 hs hbut; have c1 := HP.out.rob.c1; have v3 := IntWalk.i64_in (sz * 32768) (by omega))); go_wp2_with fail; refine hK.out _ _ ?_ (fun hHeld => ?_); (focus (exact trivial)); clear hK K; (try simp only [Act.put, List.getElem_toArray, List.getElem_cons_succ, List.getElem_cons_zero, List.setIfInBounds_toArray, List.set_cons_zero, List.set_cons_succ])
            refine wpAnyH_take (i := 13) (v := ?_) rfl (by kernel_rfl) (by kernel_rfl) (by kernel_rfl) (fun _ _ _ h => h) (Or.inl ⟨by rfl, ?_⟩) (by assumption) ?_; rotate_left; (focus (intro w hSw; (try dsimp only at hSw); go_simp; try with_reducible rfl)); (try simp only [Act.put, List.getElem_toArray, List.getElem_cons_succ, List.getElem_cons_zero, List.setIfInBounds_toArray, List.set_cons_zero, List.set_cons_succ])
            refine wpAnyH_take (i := 14) (v := ?_) rfl (by kernel_rfl) (by kernel_rfl) (by kernel_rfl) (fun _ _ _ h => h) (Or.inl ⟨by rfl, ?_⟩) (by assumption) ?_; rotate_left; (focus (intro w hSw; (try dsimp only at hSw); go_simp; try with_reducible rfl)); (try simp only [Act.put, List.getElem_toArray, List.getElem_cons_succ, List.getElem_cons_zero, List.setIfInBounds_toArray, List.set_cons_zero, List.set_cons_succ])
            refine wpAnyH_take (i := 15) (v := ?_) rfl (by kernel_rfl) (by kernel_rfl) (by kernel_rfl) (fun _ _ _ h => h) (Or.inl ⟨by rfl, ?_⟩) (by assumption) ?_; rotate_left; (focus (intro w hSw; (try dsimp only at hSw); go_simp; try with_reducible rfl)); (try simp only [Act.put, List.getElem_toArray, List.getElem_cons_succ, List.getElem_cons_zero, List.setIfInBounds_toArray, List.set_cons_zero, List.set_cons_succ])
            refine wpAnyH_ready (rs := [16]) (by kernel_rfl) (by simp) (AllReadyH.cons rfl (fun K hK => ?_) (AllReadyH.nil))
            go_simp; refine hK.out _ _ ?_ (fun hHeld => ?_); (focus (exact trivial)); clear hK K; (try simp only [Act.put, List.getElem_toArray, List.getElem_cons_succ, List.getElem_cons_zero, List.setIfInBounds_toArray, List.set_cons_zero, List.set_cons_succ]); have HP2 := Lib.hid (HP.out.alloc (.cells (massC ⟨lk, 1 + m9, sx * 32768, 0, sz * 32768⟩) 74)); clear HP c1; have HP := HP2; clear HP2; have c1 := HP.out.rob.c1; simp only [massC] at c1
            refine wpAnyH_ready (rs := [17]) (by kernel_rfl) (by simp) (AllReadyH.cons rfl (fun K hK => ?_) (AllReadyH.nil))
            rw [if_pos (by rfl)]; refine wp_append_own _ (.tmp 30) (.tmp 45) 23 rfl (w.heap.size + 2) 74 i1 (.agg (massC ⟨0, 0, 0, 0, 0⟩)) 5 40 under_masses MI.out MZ0.out MZ1.out MZ2.out rfl (by decide) _ ms.length (mcells ms) rfl HP.out.om ⟨_, 0, none⟩ 1 1 (massC ⟨lk, 1 + m9, sx * 32768, 0, sz * 32768⟩).toList rfl (by rfl) (mass_news _ ⟨lk, 1 + m9, sx * 32768, 0, sz * 32768⟩) (mass_ones _) (by unfold maxLen; omega) (by omega) HP.out.rob.lt ?_; intro v' w1 hown' hgrow _; obtain ⟨g, cap, rfl⟩ := own_form hown' (by omega); obtain ⟨hrob, hpush⟩ := HP.out.pushM hown' hgrow; clear HP c1 hown' hgrow; have HP := Lib.hid hpush; have c1 := hrob.c1; have f1 := hrob.free 1; clear hpush hrob; refine hK.out _ _ ?_ (fun hHeld => ?_); (focus (exact trivial)); clear hK K; (try simp only [Act.put, List.getElem_toArray, List.getElem_cons_succ, List.getElem_cons_zero, List.setIfInBounds_toArray, List.set_cons_zero, List.set_cons_succ])
            refine wpAnyH_take (i := 18) (v := ?_) rfl (by kernel_rfl) (by kernel_rfl) (by kernel_rfl) (fun _ _ _ h => h) (Or.inl ⟨by rfl, ?_⟩) (by assumption) ?_; rotate_left; (focus (intro w hSw; (try dsimp only at hSw); go_simp; try with_reducible rfl)); (try simp only [Act.put, List.getElem_toArray, List.getElem_cons_succ, List.getElem_cons_zero, List.setIfInBounds_toArray, List.set_cons_zero, List.set_cons_succ])
            refine wpAnyH_ready (rs := [19]) (by kernel_rfl) (by simp) (AllReadyH.cons rfl (fun K hK => ?_) (AllReadyH.nil))
            go_simp; refine hK.out _ _ ?_ (fun hHeld => ?_); (focus (exact trivial)); clear hK K; (try simp only [Act.put, List.getElem_toArray, List.getElem_cons_succ, List.getElem_cons_zero, List.setIfInBounds_toArray, List.set_cons_zero, List.set_cons_succ])
            refine wpAnyH_done (by kernel_rfl) ?_ _
            go_wp2_with fail
            go_roundw
            case rel => exact ⟨c - 1, ms ++ [⟨lk, 1 + m9, sx * 32768, 0, sz * 32768⟩], _, by omega, by rw [List.length_append]; simp; omega, rfl, fun k hk => all_snoc (P := fun _ m => MadeM n m) HALL.out ⟨⟨lk0, by omega⟩, by dsimp only; omega, by dsimp only; omega, rfl, by dsimp only; omega⟩ k hk, HP.out⟩
            case measure => simp [intOf]; omega
          · go_simp; ((go_at_call 42; refine (Next_any B b n _ HP.out.src (by omega) (by omega)).mono ?_; rintro e w' ⟨lk, lk0, lk1, rfl, hs, hbut⟩; have HP2 := Lib.hid (HP.out.next hs hbut); clear HP c1; have HP := HP2; clear HP2 hs hbut; have c1 := HP.out.rob.c1)); go_wp2_with fail; refine hK.out _ _ ?_ (fun hHeld => ?_); (focus (exact trivial)); clear hK K; (try simp only [Act.put, List.getElem_toArray, List.getElem_cons_succ, List.getElem_cons_zero, List.setIfInBounds_toArray, List.set_cons_zero, List.set_cons_succ])
            refine wpAnyH_ready (rs := [1, 6]) (by kernel_rfl) (by simp) (AllReadyH.cons rfl (fun K hK => ?_) (AllReadyH.cons rfl (fun K hK => ?_) (AllReadyH.nil)))
            · go_simp; refine hK.out _ _ ?_ (fun hHeld => ?_); (focus (exact trivial)); clear hK K; (try simp only [Act.put, List.getElem_toArray, List.getElem_cons_succ, List.getElem_cons_zero, List.setIfInBounds_toArray, List.set_cons_zero, List.set_cons_succ])
              refine wpAnyH_ready (rs := [6]) (by kernel_rfl) (by simp) (AllReadyH.cons rfl (fun K hK => ?_) (AllReadyH.nil))
              go_simp; ((go_at_call 42; refine (Next_any B b 9000 _ HP.out.src (by omega) (by omega)).mono ?_; rintro e w' ⟨m9, m90, m91, rfl, hs, hbut⟩; have HP2 := Lib.hid (HP.out.next hs hbut); clear HP c1; have HP := HP2; clear HP2 hs hbut; have c1 := HP.out.rob.c1; have v1 := IntWalk.i64_in (1 + m9) (by omega))); go_wp2_with fail; refine hK.out _ _ ?_ (fun hHeld => ?_); (focus (exact trivial)); clear hK K; (try simp only [Act.put, List.getElem_toArray, List.getElem_cons_succ, List.getElem_cons_zero, List.setIfInBounds_toArray, List.set_cons_zero, List.set_cons_succ])
              refine wpAnyH_take (i := 7) (v := ?_) rfl (by kernel_rfl) (by kernel_rfl) (by kernel_rfl) (fun _ _ _ h => h) (Or.inl ⟨by rfl, ?_⟩) (by assumption) ?_; rotate_left; (focus (intro w hSw; (try dsimp only at hSw); go_simp; try with_reducible rfl)); (try simp only [Act.put, List.getElem_toArray, List.getElem_cons_succ, List.getElem_cons_zero, List.setIfInBounds_toArray, List.set_cons_zero, List.set_cons_succ])
              refine wpAnyH_ready (rs := [9]) (by kernel_rfl) (by simp) (AllReadyH.cons rfl (fun K hK => ?_) (AllReadyH.nil))
              go_simp; ((go_at_call 44; refine (Signed_any B b 3 _ HP.out.src (by omega) (by omega)).mono ?_; rintro e w' ⟨sx, sx0, sx1, rfl, hs, hbut⟩; have HP2 := Lib.hid (HP.out.next hs hbut); clear HP c1; have HP := HP2; clear HP2 hs hbut; have c1 := HP.out.rob.c1; have v2 := IntWalk.i64_in (sx * 32768) (by omega))); go_wp2_with fail; refine hK.out _ _ ?_ (fun hHeld => ?_); (focus (exact trivial)); clear hK K; (try simp only [Act.put, List.getElem_toArray, List.getElem_cons_succ, List.getElem_cons_zero, List.setIfInBounds_toArray, List.set_cons_zero, List.set_cons_succ])
              refine wpAnyH_take (i := 10) (v := ?_) rfl (by kernel_rfl) (by kernel_rfl) (by kernel_rfl) (fun _ _ _ h => h) (Or.inl ⟨by rfl, ?_⟩) (by assumption) ?_; rotate_left; (focus (intro w hSw; (try dsimp only at hSw); go_simp; try with_reducible rfl)); (try simp only [Act.put, List.getElem_toArray, List.getElem_cons_succ, List.getElem_cons_zero, List.setIfInBounds_toArray, List.set_cons_zero, List.set_cons_succ])
              refine wpAnyH_ready (rs := [12]) (by kernel_rfl) (by simp) (AllReadyH.cons rfl (fun K hK => ?_) (AllReadyH.nil))
              go_simp; ((go_at_call 44; refine (Signed_any B b 2 _ HP.out.src (by omega) (by omega)).mono ?_; rintro e w' ⟨sz, sz0, sz1, rfl, hs, hbut⟩; have HP2 := Lib.hid (HP.out.next hs hbut); clear HP c1; have HP := HP2; clear HP2 hs hbut; have c1 := HP.out.rob.c1; have v3 := IntWalk.i64_in (sz * 32768) (by omega))); go_wp2_with fail; refine hK.out _ _ ?_ (fun hHeld => ?_); (focus (exact trivial)); clear hK K; (try simp only [Act.put, List.getElem_toArray, List.getElem_cons_succ, List.getElem_cons_zero, List.setIfInBounds_toArray, List.set_cons_zero, List.set_cons_succ])
              refine wpAnyH_take (i := 13) (v := ?_) rfl (by kernel_rfl) (by kernel_rfl) (by kernel_rfl) (fun _ _ _ h => h) (Or.inl ⟨by rfl, ?_⟩) (by assumption) ?_; rotate_left; (focus (intro w hSw; (try dsimp only at hSw); go_simp; try with_reducible rfl)); (try simp only [Act.put, List.getElem_toArray, List.getElem_cons_succ, List.getElem_cons_zero, List.setIfInBounds_toArray, List.set_cons_zero, List.set_cons_succ])
              refine wpAnyH_take (i := 14) (v := ?_) rfl (by kernel_rfl) (by kernel_rfl) (by kernel_rfl) (fun _ _ _ h => h) (Or.inl ⟨by rfl, ?_⟩) (by assumption) ?_; rotate_left; (focus (intro w hSw; (try dsimp only at hSw); go_simp; try with_reducible rfl)); (try simp only [Act.put, List.getElem_toArray, List.getElem_cons_succ, List.getElem_cons_zero, List.setIfInBounds_toArray, List.set_cons_zero, List.set_cons_succ])
              refine wpAnyH_take (i := 15) (v := ?_) rfl (by kernel_rfl) (by kernel_rfl) (by kernel_rfl) (fun _ _ _ h => h) (Or.inl ⟨by rfl, ?_⟩) (by assumption) ?_; rotate_left; (focus (intro w hSw; (try dsimp only at hSw); go_simp; try with_reducible rfl)); (try simp only [Act.put, List.getElem_toArray, List.getElem_cons_succ, List.getElem_cons_zero, List.setIfInBounds_toArray, List.set_cons_zero, List.set_cons_succ])
              refine wpAnyH_ready (rs := [16]) (by kernel_rfl) (by simp) (AllReadyH.cons rfl (fun K hK => ?_) (AllReadyH.nil))
              go_simp; refine hK.out _ _ ?_ (fun hHeld => ?_); (focus (exact trivial)); clear hK K; (try simp only [Act.put, List.getElem_toArray, List.getElem_cons_succ, List.getElem_cons_zero, List.setIfInBounds_toArray, List.set_cons_zero, List.set_cons_succ]); have HP2 := Lib.hid (HP.out.alloc (.cells (massC ⟨lk, 1 + m9, sx * 32768, 0, sz * 32768⟩) 74)); clear HP c1; have HP := HP2; clear HP2; have c1 := HP.out.rob.c1; simp only [massC] at c1
              refine wpAnyH_ready (rs := [17]) (by kernel_rfl) (by simp) (AllReadyH.cons rfl (fun K hK => ?_) (AllReadyH.nil))
              rw [if_pos (by rfl)]; refine wp_append_own _ (.tmp 30) (.tmp 45) 23 rfl (w.heap.size + 2) 74 i1 (.agg (massC ⟨0, 0, 0, 0, 0⟩)) 5 40 under_masses MI.out MZ0.out MZ1.out MZ2.out rfl (by decide) _ ms.length (mcells ms) rfl HP.out.om ⟨_, 0, none⟩ 1 1 (massC ⟨lk, 1 + m9, sx * 32768, 0, sz * 32768⟩).toList rfl (by rfl) (mass_news _ ⟨lk, 1 + m9, sx * 32768, 0, sz * 32768⟩) (mass_ones _) (by unfold maxLen; omega) (by omega) HP.out.rob.lt ?_; intro v' w1 hown' hgrow _; obtain ⟨g, cap, rfl⟩ := own_form hown' (by omega); obtain ⟨hrob, hpush⟩ := HP.out.pushM hown' hgrow; clear HP c1 hown' hgrow; have HP := Lib.hid hpush; have c1 := hrob.c1; have f1 := hrob.free 1; clear hpush hrob; refine hK.out _ _ ?_ (fun hHeld => ?_); (focus (exact trivial)); clear hK K; (try simp only [Act.put, List.getElem_toArray, List.getElem_cons_succ, List.getElem_cons_zero, List.setIfInBounds_toArray, List.set_cons_zero, List.set_cons_succ])
              refine wpAnyH_take (i := 18) (v := ?_) rfl (by kernel_rfl) (by kernel_rfl) (by kernel_rfl) (fun _ _ _ h => h) (Or.inl ⟨by rfl, ?_⟩) (by assumption) ?_; rotate_left; (focus (intro w hSw; (try dsimp only at hSw); go_simp; try with_reducible rfl)); (try simp only [Act.put, List.getElem_toArray, List.getElem_cons_succ, List.getElem_cons_zero, List.setIfInBounds_toArray, List.set_cons_zero, List.set_cons_succ])
              refine wpAnyH_ready (rs := [19]) (by kernel_rfl) (by simp) (AllReadyH.cons rfl (fun K hK => ?_) (AllReadyH.nil))
              go_simp; refine hK.out _ _ ?_ (fun hHeld => ?_); (focus (exact trivial)); clear hK K; (try simp only [Act.put, List.getElem_toArray, List.getElem_cons_succ, List.getElem_cons_zero, List.setIfInBounds_toArray, List.set_cons_zero, List.set_cons_succ])
              refine wpAnyH_done (by kernel_rfl) ?_ _
              go_wp2_with fail
              go_roundw
              case rel => exact ⟨c - 1, ms ++ [⟨lk, 1 + m9, sx * 32768, 0, sz * 32768⟩], _, by omega, by rw [List.length_append]; simp; omega, rfl, fun k hk => all_snoc (P := fun _ m => MadeM n m) HALL.out ⟨⟨lk0, by omega⟩, by dsimp only; omega, by dsimp only; omega, rfl, by dsimp only; omega⟩ k hk, HP.out⟩
              case measure => simp [intOf]; omega
            · go_simp; ((go_at_call 42; refine (Next_any B b 9000 _ HP.out.src (by omega) (by omega)).mono ?_; rintro e w' ⟨m9, m90, m91, rfl, hs, hbut⟩; have HP2 := Lib.hid (HP.out.next hs hbut); clear HP c1; have HP := HP2; clear HP2 hs hbut; have c1 := HP.out.rob.c1; have v1 := IntWalk.i64_in (1 + m9) (by omega))); go_wp2_with fail; refine hK.out _ _ ?_ (fun hHeld => ?_); (focus (exact trivial)); clear hK K; (try simp only [Act.put, List.getElem_toArray, List.getElem_cons_succ, List.getElem_cons_zero, List.setIfInBounds_toArray, List.set_cons_zero, List.set_cons_succ])
              refine wpAnyH_take (i := 7) (v := ?_) rfl (by kernel_rfl) (by kernel_rfl) (by kernel_rfl) (fun _ _ _ h => h) (Or.inl ⟨by rfl, ?_⟩) (by assumption) ?_; rotate_left; (focus (intro w hSw; (try dsimp only at hSw); go_simp; try with_reducible rfl)); (try simp only [Act.put, List.getElem_toArray, List.getElem_cons_succ, List.getElem_cons_zero, List.setIfInBounds_toArray, List.set_cons_zero, List.set_cons_succ])
              refine wpAnyH_ready (rs := [1, 9]) (by kernel_rfl) (by simp) (AllReadyH.cons rfl (fun K hK => ?_) (AllReadyH.cons rfl (fun K hK => ?_) (AllReadyH.nil)))
              · go_simp; refine hK.out _ _ ?_ (fun hHeld => ?_); (focus (exact trivial)); clear hK K; (try simp only [Act.put, List.getElem_toArray, List.getElem_cons_succ, List.getElem_cons_zero, List.setIfInBounds_toArray, List.set_cons_zero, List.set_cons_succ])
                refine wpAnyH_ready (rs := [9]) (by kernel_rfl) (by simp) (AllReadyH.cons rfl (fun K hK => ?_) (AllReadyH.nil))
                go_simp; ((go_at_call 44; refine (Signed_any B b 3 _ HP.out.src (by omega) (by omega)).mono ?_; rintro e w' ⟨sx, sx0, sx1, rfl, hs, hbut⟩; have HP2 := Lib.hid (HP.out.next hs hbut); clear HP c1; have HP := HP2; clear HP2 hs hbut; have c1 := HP.out.rob.c1; have v2 := IntWalk.i64_in (sx * 32768) (by omega))); go_wp2_with fail; refine hK.out _ _ ?_ (fun hHeld => ?_); (focus (exact trivial)); clear hK K; (try simp only [Act.put, List.getElem_toArray, List.getElem_cons_succ, List.getElem_cons_zero, List.setIfInBounds_toArray, List.set_cons_zero, List.set_cons_succ])
                refine wpAnyH_take (i := 10) (v := ?_) rfl (by kernel_rfl) (by kernel_rfl) (by kernel_rfl) (fun _ _ _ h => h) (Or.inl ⟨by rfl, ?_⟩) (by assumption) ?_; rotate_left; (focus (intro w hSw; (try dsimp only at hSw); go_simp; try with_reducible rfl)); (try simp only [Act.put, List.getElem_toArray, List.getElem_cons_succ, List.getElem_cons_zero, List.setIfInBounds_toArray, List.set_cons_zero, List.set_cons_succ])
                refine wpAnyH_ready (rs := [12]) (by kernel_rfl) (by simp) (AllReadyH.cons rfl (fun K hK => ?_) (AllReadyH.nil))
                go_simp; ((go_at_call 44; refine (Signed_any B b 2 _ HP.out.src (by omega) (by omega)).mono ?_; rintro e w' ⟨sz, sz0, sz1, rfl, hs, hbut⟩; have HP2 := Lib.hid (HP.out.next hs hbut); clear HP c1; have HP := HP2; clear HP2 hs hbut; have c1 := HP.out.rob.c1; have v3 := IntWalk.i64_in (sz * 32768) (by omega))); go_wp2_with fail; refine hK.out _ _ ?_ (fun hHeld => ?_); (focus (exact trivial)); clear hK K; (try simp only [Act.put, List.getElem_toArray, List.getElem_cons_succ, List.getElem_cons_zero, List.setIfInBounds_toArray, List.set_cons_zero, List.set_cons_succ])
                refine wpAnyH_take (i := 13) (v := ?_) rfl (by kernel_rfl) (by kernel_rfl) (by kernel_rfl) (fun _ _ _ h => h) (Or.inl ⟨by rfl, ?_⟩) (by assumption) ?_; rotate_left; (focus (intro w hSw; (try dsimp only at hSw); go_simp; try with_reducible rfl)); (try simp only [Act.put, List.getElem_toArray, List.getElem_cons_succ, List.getElem_cons_zero, List.setIfInBounds_toArray, List.set_cons_zero, List.set_cons_succ])
                refine wpAnyH_take (i := 14) (v := ?_) rfl (by kernel_rfl) (by kernel_rfl) (by kernel_rfl) (fun _ _ _ h => h) (Or.inl ⟨by rfl, ?_⟩) (by assumption) ?_; rotate_left; (focus (intro w hSw; (try dsimp only at hSw); go_simp; try with_reducible rfl)); (try simp only [Act.put, List.getElem_toArray, List.getElem_cons_succ, List.getElem_cons_zero, List.setIfInBounds_toArray, List.set_cons_zero, List.set_cons_succ])
                refine wpAnyH_take (i := 15) (v := ?_) rfl (by kernel_rfl) (by kernel_rfl) (by kernel_rfl) (fun _ _ _ h => h) (Or.inl ⟨by rfl, ?_⟩) (by assumption) ?_; rotate_left; (focus (intro w hSw; (try dsimp only at hSw); go_simp; try with_reducible rfl)); (try simp only [Act.put, List.getElem_toArray, List.getElem_cons_succ, List.getElem_cons_zero, List.setIfInBounds_toArray, List.set_cons_zero, List.set_cons_succ])
                refine wpAnyH_ready (rs := [16]) (by kernel_rfl) (by simp) (AllReadyH.cons rfl (fun K hK => ?_) (AllReadyH.nil))
                go_simp; refine hK.out _ _ ?_ (fun hHeld => ?_); (focus (exact trivial)); clear hK K; (try simp only [Act.put, List.getElem_toArray, List.getElem_cons_succ, List.getElem_cons_zero, List.setIfInBounds_toArray, List.set_cons_zero, List.set_cons_succ]); have HP2 := Lib.hid (HP.out.alloc (.cells (massC ⟨lk, 1 + m9, sx * 32768, 0, sz * 32768⟩) 74)); clear HP c1; have HP := HP2; clear HP2; have c1 := HP.out.rob.c1; simp only [massC] at c1
                refine wpAnyH_ready (rs := [17]) (by kernel_rfl) (by simp) (AllReadyH.cons rfl (fun K hK => ?_) (AllReadyH.nil))
                rw [if_pos (by rfl)]; refine wp_append_own _ (.tmp 30) (.tmp 45) 23 rfl (w.heap.size + 2) 74 i1 (.agg (massC ⟨0, 0, 0, 0, 0⟩)) 5 40 under_masses MI.out MZ0.out MZ1.out MZ2.out rfl (by decide) _ ms.length (mcells ms) rfl HP.out.om ⟨_, 0, none⟩ 1 1 (massC ⟨lk, 1 + m9, sx * 32768, 0, sz * 32768⟩).toList rfl (by rfl) (mass_news _ ⟨lk, 1 + m9, sx * 32768, 0, sz * 32768⟩) (mass_ones _) (by unfold maxLen; omega) (by omega) HP.out.rob.lt ?_; intro v' w1 hown' hgrow _; obtain ⟨g, cap, rfl⟩ := own_form hown' (by omega); obtain ⟨hrob, hpush⟩ := HP.out.pushM hown' hgrow; clear HP c1 hown' hgrow; have HP := Lib.hid hpush; have c1 := hrob.c1; have f1 := hrob.free 1; clear hpush hrob; refine hK.out _ _ ?_ (fun hHeld => ?_); (focus (exact trivial)); clear hK K; (try simp only [Act.put, List.getElem_toArray, List.getElem_cons_succ, List.getElem_cons_zero, List.setIfInBounds_toArray, List.set_cons_zero, List.set_cons_succ])
                refine wpAnyH_take (i := 18) (v := ?_) rfl (by kernel_rfl) (by kernel_rfl) (by kernel_rfl) (fun _ _ _ h => h) (Or.inl ⟨by rfl, ?_⟩) (by assumption) ?_; rotate_left; (focus (intro w hSw; (try dsimp only at hSw); go_simp; try with_reducible rfl)); (try simp only [Act.put, List.getElem_toArray, List.getElem_cons_succ, List.getElem_cons_zero, List.setIfInBounds_toArray, List.set_cons_zero, List.set_cons_succ])
                refine wpAnyH_ready (rs := [19]) (by kernel_rfl) (by simp) (AllReadyH.cons rfl (fun K hK => ?_) (AllReadyH.nil))
                go_simp; refine hK.out _ _ ?_ (fun hHeld => ?_); (focus (exact trivial)); clear hK K; (try simp only [Act.put, List.getElem_toArray, List.getElem_cons_succ, List.getElem_cons_zero, List.setIfInBounds_toArray, List.set_cons_zero, List.set_cons_succ])
                refine wpAnyH_done (by kernel_rfl) ?_ _
                go_wp2_with fail
                go_roundw
                case rel => exact ⟨c - 1, ms ++ [⟨lk, 1 + m9, sx * 32768, 0, sz * 32768⟩], _, by omega, by rw [List.length_append]; simp; omega, rfl, fun k hk => all_snoc (P := fun _ m => MadeM n m) HALL.out ⟨⟨lk0, by omega⟩, by dsimp only; omega, by dsimp only; omega, rfl, by dsimp only; omega⟩ k hk, HP.out⟩
                case measure => simp [intOf]; omega
              · go_simp; ((go_at_call 44; refine (Signed_any B b 3 _ HP.out.src (by omega) (by omega)).mono ?_; rintro e w' ⟨sx, sx0, sx1, rfl, hs, hbut⟩; have HP2 := Lib.hid (HP.out.next hs hbut); clear HP c1; have HP := HP2; clear HP2 hs hbut; have c1 := HP.out.rob.c1; have v2 := IntWalk.i64_in (sx * 32768) (by omega))); go_wp2_with fail; refine hK.out _ _ ?_ (fun hHeld => ?_); (focus (exact trivial)); clear hK K; (try simp only [Act.put, List.getElem_toArray, List.getElem_cons_succ, List.getElem_cons_zero, List.setIfInBounds_toArray, List.set_cons_zero, List.set_cons_succ])
                refine wpAnyH_take (i := 10) (v := ?_) rfl (by kernel_rfl) (by kernel_rfl) (by kernel_rfl) (fun _ _ _ h => h) (Or.inl ⟨by rfl, ?_⟩) (by assumption) ?_; rotate_left; (focus (intro w hSw; (try dsimp only at hSw); go_simp; try with_reducible rfl)); (try simp only [Act.put, List.getElem_toArray, List.getElem_cons_succ, List.getElem_cons_zero, List.setIfInBounds_toArray, List.set_cons_zero, List.set_cons_succ])
                refine wpAnyH_ready (rs := [1, 12]) (by kernel_rfl) (by simp) (AllReadyH.cons rfl (fun K hK => ?_) (AllReadyH.cons rfl (fun K hK => ?_) (AllReadyH.nil)))
                · go_simp; refine hK.out _ _ ?_ (fun hHeld => ?_); (focus (exact trivial)); clear hK K; (try simp only [Act.put, List.getElem_toArray, List.getElem_cons_succ, List.getElem_cons_zero, List.setIfInBounds_toArray, List.set_cons_zero, List.set_cons_succ])
                  refine wpAnyH_ready (rs := [12]) (by kernel_rfl) (by simp) (AllReadyH.cons rfl (fun K hK => ?_) (AllReadyH.nil))
                  go_simp; ((go_at_call 44; refine (Signed_any B b 2 _ HP.out.src (by omega) (by omega)).mono ?_; rintro e w' ⟨sz, sz0, sz1, rfl, hs, hbut⟩; have HP2 := Lib.hid (HP.out.next hs hbut); clear HP c1; have HP := HP2; clear HP2 hs hbut; have c1 := HP.out.rob.c1; have v3 := IntWalk.i64_in (sz * 32768) (by omega))); go_wp2_with fail; refine hK.out _ _ ?_ (fun hHeld => ?_); (focus (exact trivial)); clear hK K; (try simp only [Act.put, List.getElem_toArray, List.getElem_cons_succ, List.getElem_cons_zero, List.setIfInBounds_toArray, List.set_cons_zero, List.set_cons_succ])
                  refine wpAnyH_take (i := 13) (v := ?_) rfl (by kernel_rfl) (by kernel_rfl) (by kernel_rfl) (fun _ _ _ h => h) (Or.inl ⟨by rfl, ?_⟩) (by assumption) ?_; rotate_left; (focus (intro w hSw; (try dsimp only at hSw); go_simp; try with_reducible rfl)); (try simp only [Act.put, List.getElem_toArray, List.getElem_cons_succ, List.getElem_cons_zero, List.setIfInBounds_toArray, List.set_cons_zero, List.set_cons_succ])
                  refine wpAnyH_take (i := 14) (v := ?_) rfl (by kernel_rfl) (by kernel_rfl) (by kernel_rfl) (fun _ _ _ h => h) (Or.inl ⟨by rfl, ?_⟩) (by assumption) ?_; rotate_left; (focus (intro w hSw; (try dsimp only at hSw); go_simp; try with_reducible rfl)); (try simp only [Act.put, List.getElem_toArray, List.getElem_cons_succ, List.getElem_cons_zero, List.setIfInBounds_toArray, List.set_cons_zero, List.set_cons_succ])
                  refine wpAnyH_take (i := 15) (v := ?_) rfl (by kernel_rfl) (by kernel_rfl) (by kernel_rfl) (fun _ _ _ h => h) (Or.inl ⟨by rfl, ?_⟩) (by assumption) ?_; rotate_left; (focus (intro w hSw; (try dsimp only at hSw); go_simp; try with_reducible rfl)); (try simp only [Act.put, List.getElem_toArray, List.getElem_cons_succ, List.getElem_cons_zero, List.setIfInBounds_toArray, List.set_cons_zero, List.set_cons_succ])
                  refine wpAnyH_ready (rs := [16]) (by kernel_rfl) (by simp) (AllReadyH.cons rfl (fun K hK => ?_) (AllReadyH.nil))
                  go_simp; refine hK.out _ _ ?_ (fun hHeld => ?_); (focus (exact trivial)); clear hK K; (try simp only [Act.put, List.getElem_toArray, List.getElem_cons_succ, List.getElem_cons_zero, List.setIfInBounds_toArray, List.set_cons_zero, List.set_cons_succ]); have HP2 := Lib.hid (HP.out.alloc (.cells (massC ⟨lk, 1 + m9, sx * 32768, 0, sz * 32768⟩) 74)); clear HP c1; have HP := HP2; clear HP2; have c1 := HP.out.rob.c1; simp only [massC] at c1
                  refine wpAnyH_ready (rs := [17]) (by kernel_rfl) (by simp) (AllReadyH.cons rfl (fun K hK => ?_) (AllReadyH.nil))
                  rw [if_pos (by rfl)]; refine wp_append_own _ (.tmp 30) (.tmp 45) 23 rfl (w.heap.size + 2) 74 i1 (.agg (massC ⟨0, 0, 0, 0, 0⟩)) 5 40 under_masses MI.out MZ0.out MZ1.out MZ2.out rfl (by decide) _ ms.length (mcells ms) rfl HP.out.om ⟨_, 0, none⟩ 1 1 (massC ⟨lk, 1 + m9, sx * 32768, 0, sz * 32768⟩).toList rfl (by rfl) (mass_news _ ⟨lk, 1 + m9, sx * 32768, 0, sz * 32768⟩) (mass_ones _) (by unfold maxLen; omega) (by omega) HP.out.rob.lt ?_; intro v' w1 hown' hgrow _; obtain ⟨g, cap, rfl⟩ := own_form hown' (by omega); obtain ⟨hrob, hpush⟩ := HP.out.pushM hown' hgrow; clear HP c1 hown' hgrow; have HP := Lib.hid hpush; have c1 := hrob.c1; have f1 := hrob.free 1; clear hpush hrob; refine hK.out _ _ ?_ (fun hHeld => ?_); (focus (exact trivial)); clear hK K; (try simp only [Act.put, List.getElem_toArray, List.getElem_cons_succ, List.getElem_cons_zero, List.setIfInBounds_toArray, List.set_cons_zero, List.set_cons_succ])
                  refine wpAnyH_take (i := 18) (v := ?_) rfl (by kernel_rfl) (by kernel_rfl) (by kernel_rfl) (fun _ _ _ h => h) (Or.inl ⟨by rfl, ?_⟩) (by assumption) ?_; rotate_left; (focus (intro w hSw; (try dsimp only at hSw); go_simp; try with_reducible rfl)); (try simp only [Act.put, List.getElem_toArray, List.getElem_cons_succ, List.getElem_cons_zero, List.setIfInBounds_toArray, List.set_cons_zero, List.set_cons_succ])
                  refine wpAnyH_ready (rs := [19]) (by kernel_rfl) (by simp) (AllReadyH.cons rfl (fun K hK => ?_) (AllReadyH.nil))
                  go_simp; refine hK.out _ _ ?_ (fun hHeld => ?_); (focus (exact trivial)); clear hK K; (try simp only [Act.put, List.getElem_toArray, List.getElem_cons_succ, List.getElem_cons_zero, List.setIfInBounds_toArray, List.set_cons_zero, List.set_cons_succ])
                  refine wpAnyH_done (by kernel_rfl) ?_ _
                  go_wp2_with fail
                  go_roundw
                  case rel => exact ⟨c - 1, ms ++ [⟨lk, 1 + m9, sx * 32768, 0, sz * 32768⟩], _, by omega, by rw [List.length_append]; simp; omega, rfl, fun k hk => all_snoc (P := fun _ m => MadeM n m) HALL.out ⟨⟨lk0, by omega⟩, by dsimp only; omega, by dsimp only; omega, rfl, by dsimp only; omega⟩ k hk, HP.out⟩
                  case measure => simp [intOf]; omega
                · go_simp; ((go_at_call 44; refine (Signed_any B b 2 _ HP.out.src (by omega) (by omega)).mono ?_; rintro e w' ⟨sz, sz0, sz1, rfl, hs, hbut⟩; have HP2 := Lib.hid (HP.out.next hs hbut); clear HP c1; have HP := HP2; clear HP2 hs hbut; have c1 := HP.out.rob.c1; have v3 := IntWalk.i64_in (sz * 32768) (by omega))); go_wp2_with fail; refine hK.out _ _ ?_ (fun hHeld => ?_); (focus (exact trivial)); clear hK K; (try simp only [Act.put, List.getElem_toArray, List.getElem_cons_succ, List.getElem_cons_zero, List.setIfInBounds_toArray, List.set_cons_zero, List.set_cons_succ])
                  refine wpAnyH_take (i := 13) (v := ?_) rfl (by kernel_rfl) (by kernel_rfl) (by kernel_rfl) (fun _ _ _ h => h) (Or.inl ⟨by rfl, ?_⟩) (by assumption) ?_; rotate_left; (focus (intro w hSw; (try dsimp only at hSw); go_simp; try with_reducible rfl)); (try simp only [Act.put, List.getElem_toArray, List.getElem_cons_succ, List.getElem_cons_zero, List.setIfInBounds_toArray, List.set_cons_zero, List.set_cons_succ])
                  refine wpAnyH_take (i := 14) (v := ?_) rfl (by kernel_rfl) (by kernel_rfl) (by kernel_rfl) (fun _ _ _ h => h) (Or.inl ⟨by rfl, ?_⟩) (by assumption) ?_; rotate_left; (focus (intro w hSw; (try dsimp only at hSw); go_simp; try with_reducible rfl)); (try simp only [Act.put, List.getElem_toArray, List.getElem_cons_succ, List.getElem_cons_zero, List.setIfInBounds_toArray, List.set_cons_zero, List.set_cons_succ])
                  refine wpAnyH_take (i := 15) (v := ?_) rfl (by kernel_rfl) (by kernel_rfl) (by kernel_rfl) (fun _ _ _ h => h) (Or.inl ⟨by rfl, ?_⟩) (by assumption) ?_; rotate_left; (focus (intro w hSw; (try dsimp only at hSw); go_simp; try with_reducible rfl)); (try simp only [Act.put, List.getElem_toArray, List.getElem_cons_succ, List.getElem_cons_zero, List.setIfInBounds_toArray, List.set_cons_zero, List.set_cons_succ])
                  refine wpAnyH_ready (rs := [1, 16]) (by kernel_rfl) (by simp) (AllReadyH.cons rfl (fun K hK => ?_) (AllReadyH.cons rfl (fun K hK => ?_) (AllReadyH.nil)))
                  · go_simp; refine hK.out _ _ ?_ (fun hHeld => ?_); (focus (exact trivial)); clear hK K; (try simp only [Act.put, List.getElem_toArray, List.getElem_cons_succ, List.getElem_cons_zero, List.setIfInBounds_toArray, List.set_cons_zero, List.set_cons_succ])
                    refine wpAnyH_ready (rs := [16]) (by kernel_rfl) (by simp) (AllReadyH.cons rfl (fun K hK => ?_) (AllReadyH.nil))
                    go_simp; refine hK.out _ _ ?_ (fun hHeld => ?_); (focus (exact trivial)); clear hK K; (try simp only [Act.put, List.getElem_toArray, List.getElem_cons_succ, List.getElem_cons_zero, List.setIfInBounds_toArray, List.set_cons_zero, List.set_cons_succ]); have HP2 := Lib.hid (HP.out.alloc (.cells (massC ⟨lk, 1 + m9, sx * 32768, 0, sz * 32768⟩) 74)); clear HP c1; have HP := HP2; clear HP2; have c1 := HP.out.rob.c1; simp only [massC] at c1
                    refine wpAnyH_ready (rs := [17]) (by kernel_rfl) (by simp) (AllReadyH.cons rfl (fun K hK => ?_) (AllReadyH.nil))
                    rw [if_pos (by rfl)]; refine wp_append_own _ (.tmp 30) (.tmp 45) 23 rfl (w.heap.size + 2) 74 i1 (.agg (massC ⟨0, 0, 0, 0, 0⟩)) 5 40 under_masses MI.out MZ0.out MZ1.out MZ2.out rfl (by decide) _ ms.length (mcells ms) rfl HP.out.om ⟨_, 0, none⟩ 1 1 (massC ⟨lk, 1 + m9, sx * 32768, 0, sz * 32768⟩).toList rfl (by rfl) (mass_news _ ⟨lk, 1 + m9, sx * 32768, 0, sz * 32768⟩) (mass_ones _) (by unfold maxLen; omega) (by omega) HP.out.rob.lt ?_; intro v' w1 hown' hgrow _; obtain ⟨g, cap, rfl⟩ := own_form hown' (by omega); obtain ⟨hrob, hpush⟩ := HP.out.pushM hown' hgrow; clear HP c1 hown' hgrow; have HP := Lib.hid hpush; have c1 := hrob.c1; have f1 := hrob.free 1; clear hpush hrob; refine hK.out _ _ ?_ (fun hHeld => ?_); (focus (exact trivial)); clear hK K; (try simp only [Act.put, List.getElem_toArray, List.getElem_cons_succ, List.getElem_cons_zero, List.setIfInBounds_toArray, List.set_cons_zero, List.set_cons_succ])
                    refine wpAnyH_take (i := 18) (v := ?_) rfl (by kernel_rfl) (by kernel_rfl) (by kernel_rfl) (fun _ _ _ h => h) (Or.inl ⟨by rfl, ?_⟩) (by assumption) ?_; rotate_left; (focus (intro w hSw; (try dsimp only at hSw); go_simp; try with_reducible rfl)); (try simp only [Act.put, List.getElem_toArray, List.getElem_cons_succ, List.getElem_cons_zero, List.setIfInBounds_toArray, List.set_cons_zero, List.set_cons_succ])
                    refine wpAnyH_ready (rs := [19]) (by kernel_rfl) (by simp) (AllReadyH.cons rfl (fun K hK => ?_) (AllReadyH.nil))
                    go_simp; refine hK.out _ _ ?_ (fun hHeld => ?_); (focus (exact trivial)); clear hK K; (try simp only [Act.put, List.getElem_toArray, List.getElem_cons_succ, List.getElem_cons_zero, List.setIfInBounds_toArray, List.set_cons_zero, List.set_cons_succ])
                    refine wpAnyH_done (by kernel_rfl) ?_ _
                    go_wp2_with fail
                    go_roundw
                    case rel => exact ⟨c - 1, ms ++ [⟨lk, 1 + m9, sx * 32768, 0, sz * 32768⟩], _, by omega, by rw [List.length_append]; simp; omega, rfl, fun k hk => all_snoc (P := fun _ m => MadeM n m) HALL.out ⟨⟨lk0, by omega⟩, by dsimp only; omega, by dsimp only; omega, rfl, by dsimp only; omega⟩ k hk, HP.out⟩
                    case measure => simp [intOf]; omega
                  · go_simp; refine hK.out _ _ ?_ (fun hHeld => ?_); (focus (exact trivial)); clear hK K; (try simp only [Act.put, List.getElem_toArray, List.getElem_cons_succ, List.getElem_cons_zero, List.setIfInBounds_toArray, List.set_cons_zero, List.set_cons_succ]); have HP2 := Lib.hid (HP.out.alloc (.cells (massC ⟨lk, 1 + m9, sx * 32768, 0, sz * 32768⟩) 74)); clear HP c1; have HP := HP2; clear HP2; have c1 := HP.out.rob.c1; simp only [massC] at c1
                    refine wpAnyH_ready (rs := [1]) (by kernel_rfl) (by simp) (AllReadyH.cons rfl (fun K hK => ?_) (AllReadyH.nil))
                    go_simp; refine hK.out _ _ ?_ (fun hHeld => ?_); (focus (exact trivial)); clear hK K; (try simp only [Act.put, List.getElem_toArray, List.getElem_cons_succ, List.getElem_cons_zero, List.setIfInBounds_toArray, List.set_cons_zero, List.set_cons_succ])
                    refine wpAnyH_ready (rs := [17]) (by kernel_rfl) (by simp) (AllReadyH.cons rfl (fun K hK => ?_) (AllReadyH.nil))
                    rw [if_pos (by rfl)]; refine wp_append_own _ (.tmp 30) (.tmp 45) 23 rfl (w.heap.size + 2) 74 i1 (.agg (massC ⟨0, 0, 0, 0, 0⟩)) 5 40 under_masses MI.out MZ0.out MZ1.out MZ2.out rfl (by decide) _ ms.length (mcells ms) rfl HP.out.om ⟨_, 0, none⟩ 1 1 (massC ⟨lk, 1 + m9, sx * 32768, 0, sz * 32768⟩).toList rfl (by rfl) (mass_news _ ⟨lk, 1 + m9, sx * 32768, 0, sz * 32768⟩) (mass_ones _) (by unfold maxLen; omega) (by omega) HP.out.rob.lt ?_; intro v' w1 hown' hgrow _; obtain ⟨g, cap, rfl⟩ := own_form hown' (by omega); obtain ⟨hrob, hpush⟩ := HP.out.pushM hown' hgrow; clear HP c1 hown' hgrow; have HP := Lib.hid hpush; have c1 := hrob.c1; have f1 := hrob.free 1; clear hpush hrob; refine hK.out _ _ ?_ (fun hHeld => ?_); (focus (exact trivial)); clear hK K; (try simp only [Act.put, List.getElem_toArray, List.getElem_cons_succ, List.getElem_cons_zero, List.setIfInBounds_toArray, List.set_cons_zero, List.set_cons_succ])
                    refine wpAnyH_take (i := 18) (v := ?_) rfl (by kernel_rfl) (by kernel_rfl) (by kernel_rfl) (fun _ _ _ h => h) (Or.inl ⟨by rfl, ?_⟩) (by assumption) ?_; rotate_left; (focus (intro w hSw; (try dsimp only at hSw); go_simp; try with_reducible rfl)); (try simp only [Act.put, List.getElem_toArray, List.getElem_cons_succ, List.getElem_cons_zero, List.setIfInBounds_toArray, List.set_cons_zero, List.set_cons_succ])
                    refine wpAnyH_ready (rs := [19]) (by kernel_rfl) (by simp) (AllReadyH.cons rfl (fun K hK => ?_) (AllReadyH.nil))
                    go_simp; refine hK.out _ _ ?_ (fun hHeld => ?_); (focus (exact trivial)); clear hK K; (try simp only [Act.put, List.getElem_toArray, List.getElem_cons_succ, List.getElem_cons_zero, List.setIfInBounds_toArray, List.set_cons_zero, List.set_cons_succ])
                    refine wpAnyH_done (by kernel_rfl) ?_ _
                    go_wp2_with fail
                    go_roundw
                    case rel => exact ⟨c - 1, ms ++ [⟨lk, 1 + m9, sx * 32768, 0, sz * 32768⟩], _, by omega, by rw [List.length_append]; simp; omega, rfl, fun k hk => all_snoc (P := fun _ m => MadeM n m) HALL.out ⟨⟨lk0, by omega⟩, by dsimp only; omega, by dsimp only; omega, rfl, by dsimp only; omega⟩ k hk, HP.out⟩
                    case measure => simp [intOf]; omega
        · have HP := Lib.hid hp
          have c0 := hp.rob.c0
          have c1 := hp.rob.c1
          have hl1 : 1 ≤ js.length := by have := HJN.out; omega
          have hl3 : js.length ≤ 3 := by have := HJN.out; omega
          clear hp
          go_wp2_with (first | (refine wpList_load_row rfl 25 _ rfl (w.heap.size + 1) rfl 25 _ (0, 0) _ HP.out.rob under_rob rfl info_rob ?_) | (refine wpList_store_row rfl 25 _ _ rfl (w.heap.size) #[vj, vm] rfl rfl 25 #[.slice none 0 0, .slice none 0 0] HP.out.re info_rob rfl (HP.out.ones) ?_))
          (try simp only [Exit.inBlock, Exit.then])
          obtain ⟨d1, d2, d3, d4⟩ := HP.out.done
          refine bodyPost_ret (v := .agg #[vj, vm]) ?_ rfl ⟨js, ms, vj, vm, rfl, d1, d2, ⟨hl1, hl3⟩, HJS.out, by omega, by rw [HJN.out]; exact HALL.out, d3, d4⟩
          exact results_cell_row rfl _ _ (w.heap.size) 25 _ (0, 0) _ rfl (setRow_heap _ _ _ _ _ _ HP.out.re) under_rob rfl info_rob
end Go.Proofs.YtpaiapcnoifpmaaDoor
