/- Proved: what is known while a robot is read: the blocks, the rows, what is added to them. Conditions: as each theorem states. -/
import Derived.Test.YtpaiapcnoifpmaaDoorRb10
namespace Go.Proofs.YtpaiapcnoifpmaaDoor
open Go.RowKit

/-- A block that holds an error and its line. -/
def SrcErr (W : World) (q : Nat) (a b : Int) : Prop := W.heap[q]? = some (.cells #[.int .i64 a, .int .i64 b] 48 (0, 0))
theorem SrcErr.lt {W : World} {q : Nat} {a b : Int} (h : SrcErr W q a b) : q < W.heap.size := lt_of_block h
theorem info_err : (Tryd.prog.info? 48).map (·.size) = some 2 := by kernel_rfl
theorem under_err : Tryd.prog.underlying 48 = some (.struct (Tryd.prog.fieldsOf 48)) := by kernel_rfl
/-- What is known while a robot is read. -/
structure RR (w W : World) (js : List JointD) (ms : List MassD) (vj vm : Value) : Prop where
  res : RobAt W w.heap.size (.slice none 0 0) (.slice none 0 0)
  err : SrcErr W (w.heap.size + 1) 0 0
  rob : RobAt W (w.heap.size + 1 + 1) vj vm
  oj : W.ownsRow (w.heap.size + 1 + 1 + 1) 60 12 vj js.length (jcells js)
  om : W.ownsRow (w.heap.size + 1 + 1 + 1) 74 5 vm ms.length (mcells ms)
  bl : Below w.heap.size w W
/-- What is known at an error. -/
structure R0 (w W : World) : Prop where
  res : RobAt W w.heap.size (.slice none 0 0) (.slice none 0 0)
  err : SrcErr W (w.heap.size + 1) 0 0
  bl : Below w.heap.size w W
theorem RR.r0 {w W : World} {js : List JointD} {ms : List MassD} {vj vm : Value} (h : RR w W js ms vj vm) : R0 w W := ⟨h.res, h.err, h.bl⟩
theorem RR.next {w W V : World} {js : List JointD} {ms : List MassD} {vj vm : Value} (h : RR w W js ms vj vm) (hb : Below W.heap.size W V) : RR w V js ms vj vm :=
  ⟨h.res.below hb h.res.lt', (hb.block _ h.err.lt).trans h.err, h.rob.below hb h.rob.lt', own_below h.oj hb, own_below h.om hb, h.bl.trans (hb.mono h.bl.size)⟩
theorem RR.alloc {w W : World} {js : List JointD} {ms : List MassD} {vj vm : Value} (h : RR w W js ms vj vm) (o : Obj) : RR w (W.alloc o) js ms vj vm := h.next ((Below.refl _ _).alloc (Nat.le_refl _) o)
theorem RR.drew {w W : World} {js : List JointD} {ms : List MassD} {vj vm : Value} (h : RR w W js ms vj vm) : RR w W.drew js ms vj vm := h.next ((Below.refl _ _).drew)
theorem RR.start {w : World} : RR w (((w.alloc (.cells #[.slice none 0 0, .slice none 0 0] 25)).alloc (.cells #[.int .i64 0, .int .i64 0] 48)).alloc (.cells #[.slice none 0 0, .slice none 0 0] 25)) [] [] (.slice none 0 0) (.slice none 0 0) :=
  ⟨(Below.heap_alloc _ _ _ (by simp <;> omega)).trans ((Below.heap_alloc _ _ _ (by simp)).trans (heap_alloc_new _ _)), (Below.heap_alloc _ _ _ (by simp)).trans (by have h := heap_alloc_new (w.alloc (.cells #[.slice none 0 0, .slice none 0 0] 25)) (.cells #[.int .i64 0, .int .i64 0] 48); simpa [SrcErr] using h),
    RobAt.at_new (by simp), World.ownsRow_nil _ _ _ _, World.ownsRow_nil _ _ _ _, bl_alloc (bl_alloc (bl_alloc (Below.refl _ _) _) _) _⟩
theorem own_rdO {W : World} {B : Nat} {e : TypeId} {size : Nat} {v : Value} {n : Nat} {xs : List Value} (h : W.ownsRow B e size v n xs) : RdO W v n size xs := by
  rcases h.2 with ⟨hv, hn⟩ | ⟨g, cap, cur, hv, hbg, hcur, h1, h2, h3, h4⟩
  · exact ⟨none, 0, by rw [hv, hn], by omega, fun j hj => by subst hn; omega⟩
  · refine ⟨some ⟨g, 0, none⟩, cap, hv, h1, fun j hj => ⟨g, 0, rfl, lt_of_block hcur, ?_⟩⟩
    subst hv
    rw [Nat.zero_add, h.cellAt j hj]
/-- The numbers of a robot are in range, and it is not too long. -/
structure PJ (n : Nat) (js : List JointD) (ms : List MassD) : Prop where
  lj : js.length ≤ n
  lm : ms.length ≤ n
  ij : ∀ k (h : k < js.length), InJ js[k]
  im : ∀ k (h : k < ms.length), InM ms[k]
theorem RR.robD {w W : World} {js : List JointD} {ms : List MassD} {vj vm : Value} {n : Nat} (h : RR w W js ms vj vm) (p : PJ n js ms) (hn : n ≤ 8796093022208) : RobD W vj vm js ms :=
  ⟨own_rdO h.oj, own_rdO h.om, Nat.le_trans p.lj hn, Nat.le_trans p.lm hn, p.ij, p.im⟩
theorem PJ.step {n : Nat} {js js' : List JointD} {ms ms' : List MassD} {s : St} (p : PJ n js ms) (hn : n ≤ 8796093022208) (h : stepR js ms s = .ok js' ms') : PJ (n + 1) js' ms' := by
  have hl := step_len h
  have hi := step_in h (Nat.le_trans p.lj hn) p.ij p.im
  exact ⟨Nat.le_trans hl.1 (Nat.succ_le_succ p.lj), Nat.le_trans hl.2 (Nat.succ_le_succ p.lm), hi.1, hi.2⟩
theorem RR.pushJ {w W w1 : World} {js : List JointD} {ms : List MassD} {vj vm v' : Value} {j : JointD} (h : RR w W js ms vj vm)
    (hown : w1.ownsRow (w.heap.size + 1 + 1 + 1) 60 12 v' (js.length + 1) (jcells js ++ (jointC j).toList)) (hg : W.grownBy w1 vj.ownBlock) :
    RobAt w1 (w.heap.size + 1 + 1) vj vm ∧ RR w (w1.setCell ⟨w.heap.size + 1 + 1, 0, none⟩ v') (js ++ [j]) ms v' vm := by
  have hr : ∀ k, vj.ownBlock = some k → w.heap.size + 1 + 1 + 1 ≤ k := fun k hk => (h.oj.lt k hk).1
  have rob1 : RobAt w1 (w.heap.size + 1 + 1) vj vm := (hg.block _ h.rob.lt (fun e => by have := hr _ e.symm; omega)).trans h.rob
  have res1 : RobAt w1 w.heap.size (.slice none 0 0) (.slice none 0 0) := (hg.block _ h.res.lt (fun e => by have := hr _ e.symm; omega)).trans h.res
  have err1 : SrcErr w1 (w.heap.size + 1) 0 0 := (hg.block _ h.err.lt (fun e => by have := hr _ e.symm; omega)).trans h.err
  have om1 := h.om.kept hg (own_apart h.om h.oj (by decide))
  have bl1 := h.bl.grown hg (by have := h.rob.lt'; omega) (fun k hk => by have := hr k hk; omega)
  refine ⟨rob1, (heap_setCell_other _ _ _ _ (by dsimp only; omega)).trans res1, (heap_setCell_other _ _ _ _ (by dsimp only; omega)).trans err1, heap_setCell_same w1 (w.heap.size + 1 + 1) 0 _ _ v' rob1, ?_, ownsRow_setCell_below om1 (by show w.heap.size + 1 + 1 < _; omega) _, bl1.setCell (by dsimp only; omega) _⟩
  rw [List.length_append, jcells_snoc]
  exact ownsRow_setCell_below hown (by show w.heap.size + 1 + 1 < _; omega) _
theorem RR.pushM {w W w1 : World} {js : List JointD} {ms : List MassD} {vj vm v' : Value} {m : MassD} (h : RR w W js ms vj vm)
    (hown : w1.ownsRow (w.heap.size + 1 + 1 + 1) 74 5 v' (ms.length + 1) (mcells ms ++ (massC m).toList)) (hg : W.grownBy w1 vm.ownBlock) :
    RobAt w1 (w.heap.size + 1 + 1) vj vm ∧ RR w (w1.setCell ⟨w.heap.size + 1 + 1, 1, none⟩ v') js (ms ++ [m]) vj v' := by
  have hr : ∀ k, vm.ownBlock = some k → w.heap.size + 1 + 1 + 1 ≤ k := fun k hk => (h.om.lt k hk).1
  have rob1 : RobAt w1 (w.heap.size + 1 + 1) vj vm := (hg.block _ h.rob.lt (fun e => by have := hr _ e.symm; omega)).trans h.rob
  have res1 : RobAt w1 w.heap.size (.slice none 0 0) (.slice none 0 0) := (hg.block _ h.res.lt (fun e => by have := hr _ e.symm; omega)).trans h.res
  have err1 : SrcErr w1 (w.heap.size + 1) 0 0 := (hg.block _ h.err.lt (fun e => by have := hr _ e.symm; omega)).trans h.err
  have oj1 := h.oj.kept hg (own_apart h.oj h.om (by decide))
  have bl1 := h.bl.grown hg (by have := h.rob.lt'; omega) (fun k hk => by have := hr k hk; omega)
  refine ⟨rob1, (heap_setCell_other _ _ _ _ (by dsimp only; omega)).trans res1, (heap_setCell_other _ _ _ _ (by dsimp only; omega)).trans err1, heap_setCell_same w1 (w.heap.size + 1 + 1) 1 _ _ v' rob1, ownsRow_setCell_below oj1 (by show w.heap.size + 1 + 1 < _; omega) _, ?_, bl1.setCell (by dsimp only; omega) _⟩
  rw [List.length_append, mcells_snoc]
  exact ownsRow_setCell_below hown (by show w.heap.size + 1 + 1 < _; omega) _
theorem jcells_set (js : List JointD) : ∀ (k : Nat) (hk : k < js.length) (a b c : Int), jcells (js.set k { js[k] with speed := a, accel := b, torque := c }) = (((jcells js).set (k * 12 + 9) (.int .i64 a)).set (k * 12 + 10) (.int .i64 b)).set (k * 12 + 11) (.int .i64 c) := by
  induction js with
  | nil => intro k hk; exact absurd hk (Nat.not_lt_zero _)
  | cons j js ih =>
    intro k hk a b c
    have hl : (jointC j).toList.length = 12 := rfl
    have e : jcells (j :: js) = (jointC j).toList ++ jcells js := rfl
    match k, hk with
    | 0, _ =>
      rw [e, List.set_append_left _ _ (by rw [hl]; decide), List.set_append_left _ _ (by rw [List.length_set, hl]; decide), List.set_append_left _ _ (by rw [List.length_set, List.length_set, hl]; decide)]
      rfl
    | k + 1, hk =>
      rw [e, List.set_append_right _ _ (by rw [hl]; omega), List.set_append_right _ _ (by rw [hl]; omega), List.set_append_right _ _ (by rw [hl]; omega), hl]
      have h1 := ih k (by simpa using hk) a b c
      rw [show (k + 1) * 12 + 9 - 12 = k * 12 + 9 by omega, show (k + 1) * 12 + 10 - 12 = k * 12 + 10 by omega, show (k + 1) * 12 + 11 - 12 = k * 12 + 11 by omega, ← h1]
      rfl
theorem RR.set {w W : World} {js : List JointD} {ms : List MassD} {vm : Value} {g cap : Nat} (h : RR w W js ms (.slice (some ⟨g, 0, none⟩) js.length cap) vm) (k : Nat) (hk : k < js.length) (a b c : Int) :
    RR w (((W.setCell ⟨g, k * 12 + 9, none⟩ (.int .i64 a)).setCell ⟨g, k * 12 + 10, none⟩ (.int .i64 b)).setCell ⟨g, k * 12 + 11, none⟩ (.int .i64 c)) (setL js k a b c) ms (.slice (some ⟨g, 0, none⟩) js.length cap) vm := by
  obtain ⟨o1, _⟩ := h.oj.stored (k * 12 + 9) (.int .i64 a)
  obtain ⟨o2, _⟩ := o1.stored (k * 12 + 10) (.int .i64 b)
  obtain ⟨o3, _⟩ := o2.stored (k * 12 + 11) (.int .i64 c)
  have hg : w.heap.size + 1 + 1 + 1 ≤ g := (h.oj.lt g rfl).1
  have hne : vm.ownBlock = none ∨ vm.ownBlock ≠ some g := own_apart h.om h.oj (by decide)
  have e : jcells (setL js k a b c) = (((jcells js).set (k * 12 + 9) (.int .i64 a)).set (k * 12 + 10) (.int .i64 b)).set (k * 12 + 11) (.int .i64 c) := by
    rw [← jcells_set js k hk]
    unfold setL
    rw [List.getD_eq_getElem?_getD, List.getElem?_eq_getElem hk]
    rfl
  have hlen : (setL js k a b c).length = js.length := by unfold setL; rw [List.length_set]
  have far : ∀ (V : World) (q i : Nat) (u : Value), q ≠ g → (V.setCell ⟨g, i, none⟩ u).heap[q]? = V.heap[q]? := fun V q i u hq => heap_setCell_other _ _ _ _ (by dsimp only; exact hq)
  refine ⟨?_, ?_, ?_, ?_, ?_, ?_⟩
  · exact (far _ _ _ _ (by omega)).trans ((far _ _ _ _ (by omega)).trans ((far _ _ _ _ (by omega)).trans h.res))
  · exact (far _ _ _ _ (by omega)).trans ((far _ _ _ _ (by omega)).trans ((far _ _ _ _ (by omega)).trans h.err))
  · exact (far _ _ _ _ (by omega)).trans ((far _ _ _ _ (by omega)).trans ((far _ _ _ _ (by omega)).trans h.rob))
  · rw [hlen, e]
    exact o3
  · exact ownsRow_setCell_other (ownsRow_setCell_other (ownsRow_setCell_other h.om (a := ⟨g, k * 12 + 9, none⟩) (hne.elim (fun h => by rw [h]; exact fun e => by cases e) id) _) (a := ⟨g, k * 12 + 10, none⟩) (hne.elim (fun h => by rw [h]; exact fun e => by cases e) id) _) (a := ⟨g, k * 12 + 11, none⟩) (hne.elim (fun h => by rw [h]; exact fun e => by cases e) id) _
  · exact ((h.bl.setCell (by dsimp only; omega) _).setCell (by dsimp only; omega) _).setCell (by dsimp only; omega) _
/-- Parts of a code. -/
def cL : Code → Code
  | .seq a _ => a
  | c => c
def cR : Code → Code
  | .seq _ b => b
  | c => c
def cB : Code → Code
  | .block _ b => b
  | .loop b => b
  | c => c
theorem find_nat (js : List JointD) (b : ByteArray) (h : ¬ findK js b < 0) : ∃ k : Nat, findK js b = k ∧ k < js.length := by
  have hr := find_range js b
  exact ⟨(findK js b).toNat, by omega, by omega⟩
theorem nine_words (l : List ByteArray) (h : l.length = 9) : ∃ a0 a1 a2 a3 a4 a5 a6 a7 a8, l = [a0, a1, a2, a3, a4, a5, a6, a7, a8] := by
  match l, h with
  | [a0, a1, a2, a3, a4, a5, a6, a7, a8], _ => exact ⟨_, _, _, _, _, _, _, _, _, rfl⟩
theorem four_words (l : List ByteArray) (h : l.length = 4) : ∃ a0 a1 a2 a3, l = [a0, a1, a2, a3] := by
  match l, h with
  | [a0, a1, a2, a3], _ => exact ⟨_, _, _, _, rfl⟩
theorem five_words (l : List ByteArray) (h : l.length = 5) : ∃ a0 a1 a2 a3 a4, l = [a0, a1, a2, a3, a4] := by
  match l, h with
  | [a0, a1, a2, a3, a4], _ => exact ⟨_, _, _, _, _, rfl⟩
theorem RdT.addr {W : World} {v : Value} {x : ByteArray} {xs : List ByteArray} (h : RdT W v (x :: xs)) : ∃ g o c, v = .slice (some ⟨g, o, none⟩) (xs.length + 1) c ∧ xs.length + 1 ≤ c := by
  obtain ⟨A, c, rfl, hc, hk⟩ := h
  obtain ⟨g, o, rfl, _, _⟩ := hk 0 (by simp)
  exact ⟨g, o, c, rfl, hc.1⟩
/-- A block that holds a statement. -/
def StAt (W : World) (q : Nat) (ln : Int) (wd : ByteArray) (va : Value) : Prop := W.heap[q]? = some (.cells #[.int .i64 ln, .string wd, va] 43 (0, 0))
theorem StAt.lt {W : World} {q : Nat} {ln : Int} {wd : ByteArray} {va : Value} (h : StAt W q ln wd va) : q < W.heap.size := lt_of_block h
theorem StAt.next {W V : World} {q : Nat} {ln : Int} {wd : ByteArray} {va : Value} (h : StAt W q ln wd va) (hb : Below W.heap.size W V) : StAt V q ln wd va := (hb.block _ h.lt).trans h
theorem StAt.c0 {W : World} {q : Nat} {ln : Int} {wd : ByteArray} {va : Value} (h : StAt W q ln wd va) : W.cell? ⟨q, 0, none⟩ = some (.int .i64 ln) := cell_of_row W q 0 _ _ _ h
theorem StAt.c1 {W : World} {q : Nat} {ln : Int} {wd : ByteArray} {va : Value} (h : StAt W q ln wd va) : W.cell? ⟨q, 1, none⟩ = some (.string wd) := cell_of_row W q 1 _ _ _ h
theorem StAt.c2 {W : World} {q : Nat} {ln : Int} {wd : ByteArray} {va : Value} (h : StAt W q ln wd va) : W.cell? ⟨q, 2, none⟩ = some va := cell_of_row W q 2 _ _ _ h
theorem RR.st_pushJ {w W w1 : World} {js : List JointD} {ms : List MassD} {vj vm v' va : Value} {q i : Nat} {ln : Int} {wd : ByteArray} (h : RR w W js ms vj vm) (st : StAt W q ln wd va) (hg : W.grownBy w1 vj.ownBlock) (hq : w.heap.size + 1 + 1 < q) : StAt (w1.setCell ⟨w.heap.size + 1 + 1, i, none⟩ v') q ln wd va :=
  (heap_setCell_other _ _ _ _ (by dsimp only; omega)).trans ((hg.block q st.lt (fun e => own_ne h.oj st (by decide) e.symm)).trans st)
theorem RR.st_pushM {w W w1 : World} {js : List JointD} {ms : List MassD} {vj vm v' va : Value} {q i : Nat} {ln : Int} {wd : ByteArray} (h : RR w W js ms vj vm) (st : StAt W q ln wd va) (hg : W.grownBy w1 vm.ownBlock) (hq : w.heap.size + 1 + 1 < q) : StAt (w1.setCell ⟨w.heap.size + 1 + 1, i, none⟩ v') q ln wd va :=
  (heap_setCell_other _ _ _ _ (by dsimp only; omega)).trans ((hg.block q st.lt (fun e => own_ne h.om st (by decide) e.symm)).trans st)
/-- What is known behind one statement's switch. -/
def SwP (w : World) (q : Nat) (js : List JointD) (ms : List MassD) (s : St) (v7 : Value) (W : World) : Prop :=
  ∃ er : Int, v7 = .int .i64 er ∧ (er = 0 → ∃ js' ms' vj' vm', stepR js ms s = .ok js' ms' ∧ RR w W js' ms' vj' vm') ∧ (er ≠ 0 → stepR js ms s = .err er) ∧ R0 w W ∧ W.cell? ⟨q, 0, none⟩ = some (.int .i64 s.line)
theorem SwP.bad {w W : World} {q : Nat} {js : List JointD} {ms : List MassD} {s : St} {er : Int} (h : stepR js ms s = .err er) (he : er ≠ 0) (h0 : R0 w W) (hc : W.cell? ⟨q, 0, none⟩ = some (.int .i64 s.line)) : SwP w q js ms s (.int .i64 er) W :=
  ⟨er, rfl, fun h => absurd h he, fun _ => h, h0, hc⟩
theorem SwP.good {w W : World} {q : Nat} {js js' : List JointD} {ms ms' : List MassD} {vj vm : Value} {s : St} (h : stepR js ms s = .ok js' ms') (hr : RR w W js' ms' vj vm) (hc : W.cell? ⟨q, 0, none⟩ = some (.int .i64 s.line)) : SwP w q js ms s (.int .i64 0) W :=
  ⟨0, rfl, fun _ => ⟨js', ms', vj, vm, h, hr⟩, fun h => absurd rfl h, hr.r0, hc⟩
theorem step_args {js : List JointD} {ms : List MassD} {s : St} (hk : ¬ 2 < wordK (bts s.word)) (ha : argsK (wordK (bts s.word)) s.args.length = false) : stepR js ms s = .err 702 := by
  unfold stepR
  rw [if_neg hk, if_pos ha]
theorem step_joint {js : List JointD} {ms : List MassD} {s : St} (hk : wordK (bts s.word) = 0) (ha : argsK (wordK (bts s.word)) s.args.length = true) : stepR js ms s = if jerrK js s.args = 0 then .ok (js ++ [readJ js s.args]) ms else .err (jerrK js s.args) := by
  unfold stepR
  rw [if_neg (by rw [hk]; decide), if_neg (by rw [ha]; decide), if_pos hk]
theorem step_unknown {js : List JointD} {ms : List MassD} {s : St} (hk : wordK (bts s.word) = 1 ∨ wordK (bts s.word) = 2) (ha : argsK (wordK (bts s.word)) s.args.length = true) (hf : findK js (s.args.getD 0 ⟨#[]⟩) < 0) : stepR js ms s = .err 810 := by
  unfold stepR
  rw [if_neg (by omega), if_neg (by rw [ha]; decide), if_neg (by omega), if_pos hf]
theorem step_limit {js : List JointD} {ms : List MassD} {s : St} (hk : wordK (bts s.word) = 1) (ha : argsK (wordK (bts s.word)) s.args.length = true) (hf : ¬ findK js (s.args.getD 0 ⟨#[]⟩) < 0) : stepR js ms s =
    if outB (intS (bts (s.args.getD 1 ⟨#[]⟩))) = false ∨ outB (intS (bts (s.args.getD 2 ⟨#[]⟩))) = false ∨ outB (intS (bts (s.args.getD 3 ⟨#[]⟩))) = false then .err 809
      else .ok (setL js (findK js (s.args.getD 0 ⟨#[]⟩)).toNat (outI (intS (bts (s.args.getD 1 ⟨#[]⟩)))) (outI (intS (bts (s.args.getD 2 ⟨#[]⟩)))) (outI (intS (bts (s.args.getD 3 ⟨#[]⟩))))) ms := by
  unfold stepR
  rw [if_neg (by omega), if_neg (by rw [ha]; decide), if_neg (by omega), if_neg hf, if_pos hk]
theorem step_mass {js : List JointD} {ms : List MassD} {s : St} (hk : wordK (bts s.word) = 2) (ha : argsK (wordK (bts s.word)) s.args.length = true) (hf : ¬ findK js (s.args.getD 0 ⟨#[]⟩) < 0) : stepR js ms s =
    if numOk (s.args.drop 1) = false then .err 809
    else .ok js (ms ++ [⟨findK js (s.args.getD 0 ⟨#[]⟩), outI (numS (bts (s.args.getD 1 ⟨#[]⟩))), outI (numS (bts (s.args.getD 2 ⟨#[]⟩))), outI (numS (bts (s.args.getD 3 ⟨#[]⟩))), outI (numS (bts (s.args.getD 4 ⟨#[]⟩)))⟩]) := by
  unfold stepR
  rw [if_neg (by omega), if_neg (by rw [ha]; decide), if_neg (by omega), if_neg hf, if_neg (by omega)]
theorem results_two_rows {P : Program} {fn : Func} {p q : Tmp} {ty tz : TypeId} (h : fn.results = #[.cell p ty, .cell q tz]) (tmps : Array Value) (w : World) (g1 g2 : Nat) (c1 c2 : Array Value) (fr : Nat × Nat) (d e : TypeDesc)
    (hp : tmps.getD p undef = .pointer (some ⟨g1, 0, none⟩)) (hq : tmps.getD q undef = .pointer (some ⟨g2, 0, none⟩)) (h1 : w.heap[g1]? = some (.cells c1 ty fr)) (h2 : w.heap[g2]? = some (.cells c2 tz fr))
    (hu : P.underlying ty = some d) (hd : (match d with | .struct _ | .array _ _ => true | _ => false) = true) (hv : P.underlying tz = some e) (he : (match e with | .struct _ | .array _ _ => true | _ => false) = true) (i1 : (P.info? ty).map (·.size) = some c1.size) (i2 : (P.info? tz).map (·.size) = some c2.size) :
    (results fn tmps).run P w = .ok (.tuple #[.agg c1, .agg c2]) w := by
  have hp' : tmps[p]?.getD undef = .pointer (some ⟨g1, 0, none⟩) := by simpa using hp
  have hq' : tmps[q]?.getD undef = .pointer (some ⟨g2, 0, none⟩) := by simpa using hq
  simp [results, h, hp', hq', asAddr, run_loadVar_row w g1 ty ty c1 fr d h1 hu hd i1, run_loadVar_row w g2 tz tz c2 fr e h2 hv he i2]
theorem read_res {fn : Func} (h : fn.results = #[.cell 2 25, .cell 3 48]) (tmps : Array Value) (w : World) (g1 g2 : Nat) (vj vm : Value) (a b : Int) (h1 : RobAt w g1 vj vm) (h2 : SrcErr w g2 a b)
    (hp : tmps.getD 2 undef = .pointer (some ⟨g1, 0, none⟩)) (hq : tmps.getD 3 undef = .pointer (some ⟨g2, 0, none⟩)) :
    (results fn tmps).run Tryd.prog w = .ok (.tuple #[.agg #[vj, vm], .agg #[.int .i64 a, .int .i64 b]]) w :=
  results_two_rows h tmps w g1 g2 _ _ (0, 0) _ _ hp hq h1 h2 under_rob rfl under_err rfl info_rob info_err
/-- Three blocks are as they were. -/
structure B3 (X W : World) (a b c : Nat) : Prop where
  pa : W.heap[a]? = X.heap[a]?
  pb : W.heap[b]? = X.heap[b]?
  pc : W.heap[c]? = X.heap[c]?
  la : a < W.heap.size
  lb : b < W.heap.size
  lc : c < W.heap.size
theorem B3.refl {X : World} {a b c : Nat} (ha : a < X.heap.size) (hb : b < X.heap.size) (hc : c < X.heap.size) : B3 X X a b c := ⟨rfl, rfl, rfl, ha, hb, hc⟩
theorem B3.next {X W V : World} {a b c : Nat} (h : B3 X W a b c) (hb : Below W.heap.size W V) : B3 X V a b c :=
  ⟨(hb.block _ h.la).trans h.pa, (hb.block _ h.lb).trans h.pb, (hb.block _ h.lc).trans h.pc, Nat.lt_of_lt_of_le h.la hb.size, Nat.lt_of_lt_of_le h.lb hb.size, Nat.lt_of_lt_of_le h.lc hb.size⟩
theorem B3.drew {X W : World} {a b c : Nat} (h : B3 X W a b c) : B3 X W.drew a b c := h.next ((Below.refl _ _).drew)
theorem B3.alloc {X W : World} {a b c : Nat} (h : B3 X W a b c) (o : Obj) : B3 X (W.alloc o) a b c := h.next ((Below.refl _ _).alloc (Nat.le_refl _) o)
theorem B3.grown {X W V : World} {a b c : Nat} {row : Option Nat} (h : B3 X W a b c) (hg : W.grownBy V row) (ha : row ≠ some a) (hb : row ≠ some b) (hc : row ≠ some c) : B3 X V a b c :=
  ⟨(hg.block _ h.la (fun e => ha e.symm)).trans h.pa, (hg.block _ h.lb (fun e => hb e.symm)).trans h.pb, (hg.block _ h.lc (fun e => hc e.symm)).trans h.pc, Nat.lt_of_lt_of_le h.la hg.size, Nat.lt_of_lt_of_le h.lb hg.size, Nat.lt_of_lt_of_le h.lc hg.size⟩
theorem B3.set {X W : World} {a b c r i : Nat} {u : Value} (h : B3 X W a b c) (ha : a ≠ r) (hb : b ≠ r) (hc : c ≠ r) : B3 X (W.setCell ⟨r, i, none⟩ u) a b c := by
  have e : (W.setCell ⟨r, i, none⟩ u).heap.size = W.heap.size := Go.Deep.nblk_setCell _ _ _
  exact ⟨(heap_setCell_other _ _ _ _ (by dsimp only; exact ha)).trans h.pa, (heap_setCell_other _ _ _ _ (by dsimp only; exact hb)).trans h.pb, (heap_setCell_other _ _ _ _ (by dsimp only; exact hc)).trans h.pc, by rw [e]; exact h.la, by rw [e]; exact h.lb, by rw [e]; exact h.lc⟩
/-- The results' blocks, stored. -/
theorem R0.fin {w W : World} (h : R0 w W) (vj vm : Value) (a b : Int) :
    RobAt ((((W.setCell ⟨w.heap.size, 0, none⟩ vj).setCell ⟨w.heap.size, 1, none⟩ vm).setCell ⟨w.heap.size + 1, 0, none⟩ (.int .i64 a)).setCell ⟨w.heap.size + 1, 1, none⟩ (.int .i64 b)) w.heap.size vj vm ∧
    SrcErr ((((W.setCell ⟨w.heap.size, 0, none⟩ vj).setCell ⟨w.heap.size, 1, none⟩ vm).setCell ⟨w.heap.size + 1, 0, none⟩ (.int .i64 a)).setCell ⟨w.heap.size + 1, 1, none⟩ (.int .i64 b)) (w.heap.size + 1) a b ∧
    Below w.heap.size w ((((W.setCell ⟨w.heap.size, 0, none⟩ vj).setCell ⟨w.heap.size, 1, none⟩ vm).setCell ⟨w.heap.size + 1, 0, none⟩ (.int .i64 a)).setCell ⟨w.heap.size + 1, 1, none⟩ (.int .i64 b)) := by
  refine ⟨?_, ?_, (((h.bl.setCell (by dsimp only; omega) _).setCell (by dsimp only; omega) _).setCell (by dsimp only; omega) _).setCell (by dsimp only; omega) _⟩
  · exact (heap_setCell_other _ _ _ _ (by dsimp only; omega)).trans ((heap_setCell_other _ _ _ _ (by dsimp only; omega)).trans (heap_setCell_same _ w.heap.size 1 _ _ vm (heap_setCell_same W w.heap.size 0 _ _ vj h.res)))
  · exact heap_setCell_same _ (w.heap.size + 1) 1 _ _ (.int .i64 b) (heap_setCell_same _ (w.heap.size + 1) 0 _ _ (.int .i64 a) ((heap_setCell_other _ _ _ _ (by dsimp only; omega)).trans ((heap_setCell_other _ _ _ _ (by dsimp only; omega)).trans h.err)))
theorem RR.fin {w W : World} {js : List JointD} {ms : List MassD} {vj vm : Value} {n : Nat} (h : RR w W js ms vj vm) (p : PJ n js ms) (hn : n ≤ 8796093022208) (u v x y : Value) :
    RobD ((((W.setCell ⟨w.heap.size, 0, none⟩ u).setCell ⟨w.heap.size, 1, none⟩ v).setCell ⟨w.heap.size + 1, 0, none⟩ x).setCell ⟨w.heap.size + 1, 1, none⟩ y) vj vm js ms := by
  have far : ∀ {e : TypeId} {size : Nat} {z : Value} {n : Nat} {xs : List Value}, W.ownsRow (w.heap.size + 1 + 1 + 1) e size z n xs → ((((W.setCell ⟨w.heap.size, 0, none⟩ u).setCell ⟨w.heap.size, 1, none⟩ v).setCell ⟨w.heap.size + 1, 0, none⟩ x).setCell ⟨w.heap.size + 1, 1, none⟩ y).ownsRow (w.heap.size + 1 + 1 + 1) e size z n xs := fun ho =>
    ownsRow_setCell_below (a := ⟨w.heap.size + 1, 1, none⟩) (ownsRow_setCell_below (a := ⟨w.heap.size + 1, 0, none⟩) (ownsRow_setCell_below (a := ⟨w.heap.size, 1, none⟩) (ownsRow_setCell_below (a := ⟨w.heap.size, 0, none⟩) ho (by show w.heap.size < _; omega) _) (by show w.heap.size < _; omega) _) (by show w.heap.size + 1 < _; omega) _) (by show w.heap.size + 1 < _; omega) _
  exact ⟨own_rdO (far h.oj), own_rdO (far h.om), Nat.le_trans p.lj hn, Nat.le_trans p.lm hn, p.ij, p.im⟩
end Go.Proofs.YtpaiapcnoifpmaaDoor
