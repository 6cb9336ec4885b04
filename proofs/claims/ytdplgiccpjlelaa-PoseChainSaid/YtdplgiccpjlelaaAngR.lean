/- Proved: the reference's powers of an angle are the numbers of the chapter. Conditions: as each theorem states. -/
import Derived.Test.YtdplgiccpjlelaaAngP
import Derived.Deep.RegionHeld3
namespace Go.Proofs.Ytdplgiccpjlelaa
open Go.RowKit

theorem info_arr : (Try.prog.info? 86).map (·.size) = some 11 := by kernel_rfl
theorem under_arr : Try.prog.underlying 86 = some (.array 11 2) := by kernel_rfl
/-- In a region that draws its order, the load of a whole block yields its cells. -/
theorem yieldsIf_load_row {P : Program} {ops : Array Oper} {S : World → Prop} {op : Oper} {a : Act} (hw : Region.wanted op (yielded ops a.tmps) = true) (ty : TypeId) (x : Operand) (ho : op.op = .load ty x)
    (g : Nat) (hx : a.eval x = .pointer (some ⟨g, 0, none⟩)) (t : TypeId) (cs : Array Value) (fr : Nat × Nat) (d : TypeDesc) (hS : ∀ w, S w → w.heap[g]? = some (.cells cs t fr))
    (hu : P.underlying ty = some d) (hd : (match d with | .struct _ | .array _ _ => true | _ => false) = true) (hi : (P.info? ty).map (·.size) = some cs.size) : YieldsIf P ops S op (.agg cs) a :=
  .inl ⟨hw, fun w hw' => by
    unfold execOp
    simp only [ho, hx, Instr.loadAt, Instr.sureAddr, Sem.run_bind, Sem.run_pure, Result.andThen_ok, run_loadVar_row w g t ty cs fr d (hS w hw') hu hd hi]⟩
/-- Two results that are whole blocks. -/
theorem results_cell2_row {P : Program} {fn : Func} {p q : Tmp} {ty : TypeId} (h : fn.results = #[.cell p ty, .cell q ty]) (tmps : Array Value) (w : World) (g1 g2 : Nat) (t : TypeId) (c1 c2 : Array Value) (fr : Nat × Nat) (d : TypeDesc)
    (hp : tmps.getD p undef = .pointer (some ⟨g1, 0, none⟩)) (hq : tmps.getD q undef = .pointer (some ⟨g2, 0, none⟩)) (h1 : w.heap[g1]? = some (.cells c1 t fr)) (h2 : w.heap[g2]? = some (.cells c2 t fr))
    (hu : P.underlying ty = some d) (hd : (match d with | .struct _ | .array _ _ => true | _ => false) = true) (i1 : (P.info? ty).map (·.size) = some c1.size) (i2 : (P.info? ty).map (·.size) = some c2.size) :
    (results fn tmps).run P w = .ok (.tuple #[.agg c1, .agg c2]) w := by
  have hp' : tmps[p]?.getD undef = .pointer (some ⟨g1, 0, none⟩) := by simpa using hp
  have hq' : tmps[q]?.getD undef = .pointer (some ⟨g2, 0, none⟩) := by simpa using hq
  simp [results, h, hp', hq', asAddr, run_loadVar_row w g1 t ty c1 fr d h1 hu hd i1, run_loadVar_row w g2 t ty c2 fr d h2 hu hd i2]
theorem lit_new {V : World} {b : Nat} {t : TypeId} {f : Nat → Int} {c : Array Value} (hb : V.heap.size = b) (e : c = arrC f) : (V.alloc (.cells c t)).rowIs b t 11 (fun j => .int .i64 (f j)) := by
  subst hb
  exact lit_row (heap_alloc_new _ _) e
theorem heap_far {w : World} {b k : Nat} {c : Array Value} {o : Obj} (h : w.heap[k]? = some o) (hb : k ≠ b) : (w.setRow b c).heap[k]? = some o := by rw [setRow_other _ _ _ _ hb]; exact h
theorem arr_one (f : Nat → Int) : (arrC f).all (·.oneCell') = true := by unfold arrC; simp [Value.oneCell']
theorem heap_dr {w : World} {k : Nat} {o : Obj} (h : w.heap[k]? = some o) : w.drew.heap[k]? = some o := h

set_option linter.unusedSimpArgs false in
set_option maxRecDepth 100000 in
set_option maxHeartbeats 3200000 in
theorem powers_any (x : Int) (w : World) (h0 : 0 ≤ x) (h1 : x ≤ 8192) :
    Calls Try.prog 105 #[ .int .i64 x ] w fun e w' => e = .returned (.tuple #[.agg (arrC (gA 0 (tZ x) 11)), .agg (arrC (gB 0 (uZ x) 11))]) ∧ Below w.heap.size w w' := by
  obtain ⟨⟨t0, t1⟩, ⟨u0, u1⟩⟩ := tZ_bd h0 h1
  have et : x * 6746518852 / 65536 = tZ x := rfl
  have eu : ce (x * 6746518853) 65536 = uZ x := rfl
  go_enter Try.func105, Try.ntmps105
  go_wp2_with (first | (go_at_call 79; refine (Floor_any _ _ _ (by decide) (by omega) (by omega)).mono ?_; rintro e w' ⟨rfl, rfl⟩) | (go_at_call 80; refine (Ceil_any _ _ _ (by decide) (by omega) (by omega)).mono ?_; rintro e w' ⟨rfl, rfl⟩))
  go_loopw [6] (fun i wr => ∃ k : Nat, 2 ≤ k ∧ k ≤ 11 ∧ i = .int .i64 k ∧ wr.rowIs w.heap.size 86 11 (fun _ => .int .i64 0) ∧ wr.rowIs (w.heap.size + 1) 86 11 (fun _ => .int .i64 0) ∧ wr.rowIs (w.heap.size + 1 + 1) 86 11 (fun j => .int .i64 (gA 0 (tZ x) k j)) ∧ wr.rowIs (w.heap.size + 1 + 1 + 1) 86 11 (fun j => .int .i64 (gB 0 (uZ x) k j)) ∧ Below w.heap.size w wr) (fun i _ => 11 - (intOf i).toNat)
  case atStart =>
    refine ⟨2, by omega, by omega, rfl, ?_, ?_, ?_, ?_, ?_⟩
    · exact (((lit_new (f := fun _ => 0) (V := w) rfl rfl).alloc _).alloc _).alloc _
    · refine World.rowIs.alloc (World.rowIs.alloc (lit_new (f := fun _ => 0) (by simp) rfl) _) _
    · refine World.rowIs.alloc (lit_new (V := (w.alloc _).alloc _) (b := (w.heap.size + 1 + 1)) (f := gA 0 (tZ x) 2) (by simp) rfl) _
    · exact lit_new (by simp) rfl
    · exact ((((Below.refl _ _).alloc (Nat.le_refl _) _).alloc (by simp) _).alloc (by (try simp) <;> omega) _).alloc (by (try simp) <;> omega) _
  case round =>
    obtain ⟨k, hk, hk2, rfl, r0, r1, r2, r3, hb⟩ := hrel
    by_cases h3 : k < 11
    · have c1 := r2.cell (i := k - 1) (by omega)
      have c2 := r2.cell (i := k) (by omega)
      have c3 := r2.cell (i := 1) (by omega)
      have f2 := r2.frozen k
      have d1 := r3.cell (i := k - 1) (by omega)
      have d2 := r3.cell (i := k) (by omega)
      have d3 := r3.cell (i := 1) (by omega)
      have g2 := r3.frozen k
      rw [gA_at _ _ (by omega) (by omega), show k - 1 - 1 = k - 2 by omega] at c1
      rw [gA_at _ _ (by omega) (by omega), show 1 - 1 = 0 by omega] at c3
      rw [gB_at _ _ (by omega) (by omega), show k - 1 - 1 = k - 2 by omega] at d1
      rw [gB_at _ _ (by omega) (by omega), show 1 - 1 = 0 by omega] at d3
      have m : 0 ≤ aZ (tZ x) (k - 2) * aZ (tZ x) 0 ∧ aZ (tZ x) (k - 2) * aZ (tZ x) 0 ≤ 1152921504606846976 := aZ_mul t0 t1 (k - 2)
      obtain ⟨m1, m2⟩ := m
      have n : 0 ≤ bZ (uZ x) (k - 2) * bZ (uZ x) 0 ∧ bZ (uZ x) (k - 2) * bZ (uZ x) 0 ≤ 1152921504606846976 := bZ_mul u0 u1 (k - 2)
      obtain ⟨n1, n2⟩ := n
      have E := Lib.hid (show aZ (tZ x) (k - 2) * aZ (tZ x) 0 / 1073741824 = aZ (tZ x) (k - 1) from aZ_next (tZ x) hk)
      have F := Lib.hid (show ce (bZ (uZ x) (k - 2) * bZ (uZ x) 0) 1073741824 = bZ (uZ x) (k - 1) from bZ_next (uZ x) hk)
      have x1 : IntKind.i64.wrap ((k : Int) - 1) = ((k - 1 : Nat) : Int) := by rw [IntWalk.i64_in _ (by omega)]; omega
      have x2 : ((k - 1 : Nat) : Int) < 11 := by omega
      have x3 : (k : Int) < 11 := by omega
      have x4 : IntKind.i64.wrap (aZ (tZ x) (k - 2) * aZ (tZ x) 0) = aZ (tZ x) (k - 2) * aZ (tZ x) 0 := IntWalk.i64_in _ (by omega)
      have x5 : IntKind.i64.wrap (bZ (uZ x) (k - 2) * bZ (uZ x) 0) = bZ (uZ x) (k - 2) * bZ (uZ x) 0 := IntWalk.i64_in _ (by omega)
      have R0 := Lib.hid r0
      have R1 := Lib.hid r1
      have R2 := Lib.hid r2
      have R3 := Lib.hid r3
      clear r0 r1 r2 r3
      go_wp2_with fail
      refine wp_region_noPanic ?_
      refine wp_region_held_drew (S := (fun w' => w'.cell? ⟨(w.heap.size + 1 + 1), k - 1, none⟩ = some (.int .i64 (aZ (tZ x) (k - 2))) ∧ w'.cell? ⟨(w.heap.size + 1 + 1), 1, none⟩ = some (.int .i64 (aZ (tZ x) 0)))) (by kernel_rfl) ?_ (fun hHeld => ?_)
      focus (first | assumption | exact ⟨by go_simp, by go_simp⟩)
      refine wpAnyH_take (i := 0) (v := ?_) rfl (by kernel_rfl) (by kernel_rfl) (by kernel_rfl) (fun _ _ _ h => h) (Or.inl ⟨by rfl, ?_⟩) (by assumption) ?_; rotate_left; (focus (intro w hSw; (try dsimp only at hSw); go_simp; try with_reducible rfl)); (try simp only [Act.put, List.getElem_toArray, List.getElem_cons_succ, List.getElem_cons_zero, List.setIfInBounds_toArray, List.set_cons_zero, List.set_cons_succ])
      refine wpAnyH_take (i := 1) (v := ?_) rfl (by kernel_rfl) (by kernel_rfl) (by kernel_rfl) (fun _ _ _ h => h) (Or.inl ⟨by rfl, ?_⟩) (by assumption) ?_; rotate_left; (focus (intro w hSw; (try dsimp only at hSw); go_simp; try with_reducible rfl)); (try simp only [Act.put, List.getElem_toArray, List.getElem_cons_succ, List.getElem_cons_zero, List.setIfInBounds_toArray, List.set_cons_zero, List.set_cons_succ])
      refine wpAnyH_take (i := 2) (v := ?_) rfl (by kernel_rfl) (by kernel_rfl) (by kernel_rfl) (fun _ _ _ h => h) (Or.inl ⟨by rfl, ?_⟩) (by assumption) ?_; rotate_left; (focus (intro w hSw; (try dsimp only at hSw); go_simp; try with_reducible rfl)); (try simp only [Act.put, List.getElem_toArray, List.getElem_cons_succ, List.getElem_cons_zero, List.setIfInBounds_toArray, List.set_cons_zero, List.set_cons_succ])
      refine wpAnyH_take (i := 3) (v := ?_) rfl (by kernel_rfl) (by kernel_rfl) (by kernel_rfl) (fun _ _ _ h => h) (Or.inl ⟨by rfl, ?_⟩) (by assumption) ?_; rotate_left; (focus (intro w hSw; (try dsimp only at hSw); go_simp; try with_reducible rfl)); (try simp only [Act.put, List.getElem_toArray, List.getElem_cons_succ, List.getElem_cons_zero, List.setIfInBounds_toArray, List.set_cons_zero, List.set_cons_succ])
      refine wpAnyH_take (i := 4) (v := ?_) rfl (by kernel_rfl) (by kernel_rfl) (by kernel_rfl) (fun _ _ _ h => h) (Or.inl ⟨by rfl, ?_⟩) (by assumption) ?_; rotate_left; (focus (intro w hSw; (try dsimp only at hSw); go_simp; try with_reducible rfl)); (try simp only [Act.put, List.getElem_toArray, List.getElem_cons_succ, List.getElem_cons_zero, List.setIfInBounds_toArray, List.set_cons_zero, List.set_cons_succ])
      refine wpAnyH_take (i := 5) (v := ?_) rfl (by kernel_rfl) (by kernel_rfl) (by kernel_rfl) (fun _ _ _ h => h) (Or.inl ⟨by rfl, ?_⟩) (by assumption) ?_; rotate_left; (focus (intro w hSw; (try dsimp only at hSw); go_simp; try with_reducible rfl)); (try simp only [Act.put, List.getElem_toArray, List.getElem_cons_succ, List.getElem_cons_zero, List.setIfInBounds_toArray, List.set_cons_zero, List.set_cons_succ])
      refine wpAnyH_take (i := 6) (v := ?_) rfl (by kernel_rfl) (by kernel_rfl) (by kernel_rfl) (fun _ _ _ h => h) (Or.inl ⟨by rfl, ?_⟩) (by assumption) ?_; rotate_left; (focus (intro w hSw; (try dsimp only at hSw); go_simp; try with_reducible rfl)); (try simp only [Act.put, List.getElem_toArray, List.getElem_cons_succ, List.getElem_cons_zero, List.setIfInBounds_toArray, List.set_cons_zero, List.set_cons_succ])
      refine wpAnyH_take (i := 7) (v := ?_) rfl (by kernel_rfl) (by kernel_rfl) (by kernel_rfl) (fun _ _ _ h => h) (Or.inl ⟨by rfl, ?_⟩) (by assumption) ?_; rotate_left; (focus (intro w hSw; (try dsimp only at hSw); go_simp; try with_reducible rfl)); (try simp only [Act.put, List.getElem_toArray, List.getElem_cons_succ, List.getElem_cons_zero, List.setIfInBounds_toArray, List.set_cons_zero, List.set_cons_succ])
      refine wpAnyH_ready (rs := [8]) (by kernel_rfl) (by simp) (AllReadyH.cons rfl (fun K hK => ?_) AllReadyH.nil); go_simp; ((go_at_call 79; refine (Floor_any _ _ _ (by decide) (by omega) (by omega)).mono ?_; rintro e w' ⟨rfl, rfl⟩)); go_wp2_with fail; refine hK.out _ _ ?_ (fun hHeld => ?_); (focus (first | assumption | exact ⟨by go_simp, by go_simp⟩)); clear hK K; (try simp only [Act.put, List.getElem_toArray, List.getElem_cons_succ, List.getElem_cons_zero, List.setIfInBounds_toArray, List.set_cons_zero, List.set_cons_succ])
      refine wpAnyH_take (i := 9) (v := ?_) rfl (by kernel_rfl) (by kernel_rfl) (by kernel_rfl) (fun _ _ _ h => h) (Or.inl ⟨by rfl, ?_⟩) (by assumption) ?_; rotate_left; (focus (intro w hSw; (try dsimp only at hSw); go_simp; try with_reducible rfl)); (try simp only [Act.put, List.getElem_toArray, List.getElem_cons_succ, List.getElem_cons_zero, List.setIfInBounds_toArray, List.set_cons_zero, List.set_cons_succ])
      refine wpAnyH_ready (rs := [10]) (by kernel_rfl) (by simp) (AllReadyH.cons rfl (fun K hK => ?_) AllReadyH.nil); go_simp; refine hK.out _ _ ?_ (fun hHeld => ?_); (focus (first | assumption | exact ⟨by go_simp, by go_simp⟩)); clear hK K; (try simp only [Act.put, List.getElem_toArray, List.getElem_cons_succ, List.getElem_cons_zero, List.setIfInBounds_toArray, List.set_cons_zero, List.set_cons_succ])
      refine wpAnyH_done (by kernel_rfl) ?_ _
      refine NoPanic.normal ?_
      go_wp2_with fail
      refine wp_region_noPanic ?_
      refine wp_region_held_drew (S := (fun w' => w'.cell? ⟨(w.heap.size + 1 + 1 + 1), k - 1, none⟩ = some (.int .i64 (bZ (uZ x) (k - 2))) ∧ w'.cell? ⟨(w.heap.size + 1 + 1 + 1), 1, none⟩ = some (.int .i64 (bZ (uZ x) 0)))) (by kernel_rfl) ?_ (fun hHeld => ?_)
      focus (first | assumption | exact ⟨by go_simp, by go_simp⟩)
      refine wpAnyH_take (i := 0) (v := ?_) rfl (by kernel_rfl) (by kernel_rfl) (by kernel_rfl) (fun _ _ _ h => h) (Or.inl ⟨by rfl, ?_⟩) (by assumption) ?_; rotate_left; (focus (intro w hSw; (try dsimp only at hSw); go_simp; try with_reducible rfl)); (try simp only [Act.put, List.getElem_toArray, List.getElem_cons_succ, List.getElem_cons_zero, List.setIfInBounds_toArray, List.set_cons_zero, List.set_cons_succ])
      refine wpAnyH_take (i := 1) (v := ?_) rfl (by kernel_rfl) (by kernel_rfl) (by kernel_rfl) (fun _ _ _ h => h) (Or.inl ⟨by rfl, ?_⟩) (by assumption) ?_; rotate_left; (focus (intro w hSw; (try dsimp only at hSw); go_simp; try with_reducible rfl)); (try simp only [Act.put, List.getElem_toArray, List.getElem_cons_succ, List.getElem_cons_zero, List.setIfInBounds_toArray, List.set_cons_zero, List.set_cons_succ])
      refine wpAnyH_take (i := 2) (v := ?_) rfl (by kernel_rfl) (by kernel_rfl) (by kernel_rfl) (fun _ _ _ h => h) (Or.inl ⟨by rfl, ?_⟩) (by assumption) ?_; rotate_left; (focus (intro w hSw; (try dsimp only at hSw); go_simp; try with_reducible rfl)); (try simp only [Act.put, List.getElem_toArray, List.getElem_cons_succ, List.getElem_cons_zero, List.setIfInBounds_toArray, List.set_cons_zero, List.set_cons_succ])
      refine wpAnyH_take (i := 3) (v := ?_) rfl (by kernel_rfl) (by kernel_rfl) (by kernel_rfl) (fun _ _ _ h => h) (Or.inl ⟨by rfl, ?_⟩) (by assumption) ?_; rotate_left; (focus (intro w hSw; (try dsimp only at hSw); go_simp; try with_reducible rfl)); (try simp only [Act.put, List.getElem_toArray, List.getElem_cons_succ, List.getElem_cons_zero, List.setIfInBounds_toArray, List.set_cons_zero, List.set_cons_succ])
      refine wpAnyH_take (i := 4) (v := ?_) rfl (by kernel_rfl) (by kernel_rfl) (by kernel_rfl) (fun _ _ _ h => h) (Or.inl ⟨by rfl, ?_⟩) (by assumption) ?_; rotate_left; (focus (intro w hSw; (try dsimp only at hSw); go_simp; try with_reducible rfl)); (try simp only [Act.put, List.getElem_toArray, List.getElem_cons_succ, List.getElem_cons_zero, List.setIfInBounds_toArray, List.set_cons_zero, List.set_cons_succ])
      refine wpAnyH_take (i := 5) (v := ?_) rfl (by kernel_rfl) (by kernel_rfl) (by kernel_rfl) (fun _ _ _ h => h) (Or.inl ⟨by rfl, ?_⟩) (by assumption) ?_; rotate_left; (focus (intro w hSw; (try dsimp only at hSw); go_simp; try with_reducible rfl)); (try simp only [Act.put, List.getElem_toArray, List.getElem_cons_succ, List.getElem_cons_zero, List.setIfInBounds_toArray, List.set_cons_zero, List.set_cons_succ])
      refine wpAnyH_take (i := 6) (v := ?_) rfl (by kernel_rfl) (by kernel_rfl) (by kernel_rfl) (fun _ _ _ h => h) (Or.inl ⟨by rfl, ?_⟩) (by assumption) ?_; rotate_left; (focus (intro w hSw; (try dsimp only at hSw); go_simp; try with_reducible rfl)); (try simp only [Act.put, List.getElem_toArray, List.getElem_cons_succ, List.getElem_cons_zero, List.setIfInBounds_toArray, List.set_cons_zero, List.set_cons_succ])
      refine wpAnyH_take (i := 7) (v := ?_) rfl (by kernel_rfl) (by kernel_rfl) (by kernel_rfl) (fun _ _ _ h => h) (Or.inl ⟨by rfl, ?_⟩) (by assumption) ?_; rotate_left; (focus (intro w hSw; (try dsimp only at hSw); go_simp; try with_reducible rfl)); (try simp only [Act.put, List.getElem_toArray, List.getElem_cons_succ, List.getElem_cons_zero, List.setIfInBounds_toArray, List.set_cons_zero, List.set_cons_succ])
      refine wpAnyH_ready (rs := [8]) (by kernel_rfl) (by simp) (AllReadyH.cons rfl (fun K hK => ?_) AllReadyH.nil); go_simp; ((go_at_call 80; refine (Ceil_any _ _ _ (by decide) (by omega) (by omega)).mono ?_; rintro e w' ⟨rfl, rfl⟩)); go_wp2_with fail; refine hK.out _ _ ?_ (fun hHeld => ?_); (focus (first | assumption | exact ⟨by go_simp, by go_simp⟩)); clear hK K; (try simp only [Act.put, List.getElem_toArray, List.getElem_cons_succ, List.getElem_cons_zero, List.setIfInBounds_toArray, List.set_cons_zero, List.set_cons_succ])
      refine wpAnyH_take (i := 9) (v := ?_) rfl (by kernel_rfl) (by kernel_rfl) (by kernel_rfl) (fun _ _ _ h => h) (Or.inl ⟨by rfl, ?_⟩) (by assumption) ?_; rotate_left; (focus (intro w hSw; (try dsimp only at hSw); go_simp; try with_reducible rfl)); (try simp only [Act.put, List.getElem_toArray, List.getElem_cons_succ, List.getElem_cons_zero, List.setIfInBounds_toArray, List.set_cons_zero, List.set_cons_succ])
      refine wpAnyH_ready (rs := [10]) (by kernel_rfl) (by simp) (AllReadyH.cons rfl (fun K hK => ?_) AllReadyH.nil); go_simp; refine hK.out _ _ ?_ (fun hHeld => ?_); (focus (first | assumption | exact ⟨by go_simp, by go_simp⟩)); clear hK K; (try simp only [Act.put, List.getElem_toArray, List.getElem_cons_succ, List.getElem_cons_zero, List.setIfInBounds_toArray, List.set_cons_zero, List.set_cons_succ])
      refine wpAnyH_done (by kernel_rfl) ?_ _
      refine NoPanic.normal ?_
      go_wp2_with fail
      go_roundw
      case rel =>
        refine ⟨k + 1, by omega, by omega, by go_num, ?_, ?_, ?_, ?_, ?_⟩
        · exact row_drew (row_drew ((R0.out.setOther (by (try simp) <;> omega) _).setOther (by (try simp) <;> omega) _))
        · exact row_drew (row_drew ((R1.out.setOther (by (try simp) <;> omega) _).setOther (by (try simp) <;> omega) _))
        · rw [E.out]
          exact row_drew (row_drew (((R2.out.set k _).congr fun j _ => gA_step _ _ (by omega)).setOther (by (try simp) <;> omega) _))
        · rw [F.out]
          exact row_drew (row_drew (((R3.out.setOther (by (try simp) <;> omega) _).set k _).congr fun j _ => gB_step _ _ (by omega)))
        · exact ((hb.setCell (by (try simp) <;> omega) _).setCell (by (try simp) <;> omega) _).drew.drew
      case measure => simp [intOf]; omega
    · obtain rfl : k = 11 := by omega
      have g0 := row_lit (f := fun _ => 0) r0
      have g1 := row_lit (f := fun _ => 0) r1
      have g2 := row_lit r2
      have g3 := row_lit r3
      clear r0 r1 r2 r3
      go_wp2_with fail
      refine wp_region_held_drew (S := (fun w' => w'.heap[(w.heap.size + 1 + 1)]? = some (.cells (arrC (gA 0 (tZ x) 11)) 86 (0, 0)) ∧ w'.heap[(w.heap.size + 1 + 1 + 1)]? = some (.cells (arrC (gB 0 (uZ x) 11)) 86 (0, 0)))) (by kernel_rfl) ?_ (fun hHeld => ?_)
      focus (first | exact ⟨heap_dr g2, heap_dr g3⟩ | exact ⟨heap_far (heap_dr g2) (by omega), heap_far (heap_dr g3) (by omega)⟩ | exact ⟨heap_far (heap_far (heap_dr g2) (by omega)) (by omega), heap_far (heap_far (heap_dr g3) (by omega)) (by omega)⟩)
      refine wpAnyH_take (i := 0) (v := .agg (arrC (gA 0 (tZ x) 11))) rfl (by kernel_rfl) (by kernel_rfl) (by kernel_rfl) (fun _ _ _ h => h) (yieldsIf_load_row (by rfl) 86 _ rfl (w.heap.size + 1 + 1) rfl 86 _ (0, 0) _ (fun _ h => h.1) under_arr rfl info_arr) (by assumption) ?_; (try simp only [Act.put, List.getElem_toArray, List.getElem_cons_succ, List.getElem_cons_zero, List.setIfInBounds_toArray, List.set_cons_zero, List.set_cons_succ])
      refine wpAnyH_take (i := 1) (v := .agg (arrC (gB 0 (uZ x) 11))) rfl (by kernel_rfl) (by kernel_rfl) (by kernel_rfl) (fun _ _ _ h => h) (yieldsIf_load_row (by rfl) 86 _ rfl (w.heap.size + 1 + 1 + 1) rfl 86 _ (0, 0) _ (fun _ h => h.2) under_arr rfl info_arr) (by assumption) ?_; (try simp only [Act.put, List.getElem_toArray, List.getElem_cons_succ, List.getElem_cons_zero, List.setIfInBounds_toArray, List.set_cons_zero, List.set_cons_succ])
      refine wpAnyH_ready (rs := [2]) (by kernel_rfl) (by simp) (AllReadyH.cons rfl (fun K hK => ?_) AllReadyH.nil); rw [if_pos (by rfl)]; refine wp_store_row 86 _ _ rfl w.heap.size (arrC (gA 0 (tZ x) 11)) rfl rfl 86 (arrC fun _ => 0) (heap_dr g0) info_arr rfl (arr_one _) ?_; refine hK.out _ _ ?_ (fun hHeld => ?_); (focus (first | exact ⟨heap_dr g2, heap_dr g3⟩ | exact ⟨heap_far (heap_dr g2) (by omega), heap_far (heap_dr g3) (by omega)⟩ | exact ⟨heap_far (heap_far (heap_dr g2) (by omega)) (by omega), heap_far (heap_far (heap_dr g3) (by omega)) (by omega)⟩)); clear hK K; (try simp only [Act.put, List.getElem_toArray, List.getElem_cons_succ, List.getElem_cons_zero, List.setIfInBounds_toArray, List.set_cons_zero, List.set_cons_succ])
      refine wpAnyH_ready (rs := [3]) (by kernel_rfl) (by simp) (AllReadyH.cons rfl (fun K hK => ?_) AllReadyH.nil); rw [if_pos (by rfl)]; refine wp_store_row 86 _ _ rfl (w.heap.size + 1) (arrC (gB 0 (uZ x) 11)) rfl rfl 86 (arrC fun _ => 0) (heap_far (heap_dr g1) (by omega)) info_arr rfl (arr_one _) ?_; refine hK.out _ _ ?_ (fun hHeld => ?_); (focus (first | exact ⟨heap_dr g2, heap_dr g3⟩ | exact ⟨heap_far (heap_dr g2) (by omega), heap_far (heap_dr g3) (by omega)⟩ | exact ⟨heap_far (heap_far (heap_dr g2) (by omega)) (by omega), heap_far (heap_far (heap_dr g3) (by omega)) (by omega)⟩)); clear hK K; (try simp only [Act.put, List.getElem_toArray, List.getElem_cons_succ, List.getElem_cons_zero, List.setIfInBounds_toArray, List.set_cons_zero, List.set_cons_succ])
      refine wpAnyH_done (by kernel_rfl) ?_ _
      go_wp2_with fail
      (try simp only [Exit.inBlock, Exit.then])
      refine bodyPost_ret (v := .tuple #[.agg (arrC (gA 0 (tZ x) 11)), .agg (arrC (gB 0 (uZ x) 11))]) ?_ rfl ⟨rfl, setRow_below (setRow_below hb.drew (Nat.le_refl _) _) (by omega) _⟩
      exact results_cell2_row rfl _ _ w.heap.size (w.heap.size + 1) 86 _ _ (0, 0) _ rfl rfl (heap_far (setRow_heap _ _ _ _ _ _ (heap_dr g0)) (by omega)) (setRow_heap _ _ _ _ _ _ (heap_far (heap_dr g1) (by omega))) under_arr rfl info_arr info_arr
end Go.Proofs.Ytdplgiccpjlelaa
