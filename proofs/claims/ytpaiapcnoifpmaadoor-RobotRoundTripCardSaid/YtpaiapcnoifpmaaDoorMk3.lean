/- Proved: the maker of points returns some points of moderate size, in memory of its own. Conditions: as each theorem states. -/
import Derived.Test.YtpaiapcnoifpmaaDoorMk2
import Derived.Laws.OwnMore
namespace Go.Proofs.YtpaiapcnoifpmaaDoor
open Go.RowKit

structure PntD where
  x : Int
  y : Int
  z : Int
def pntC (p : PntD) : Array Value := #[.int .i64 p.x, .int .i64 p.y, .int .i64 p.z]
def pcells (l : List PntD) : List Value := l.flatMap (fun p => (pntC p).toList)
theorem pcells_snoc (l : List PntD) (p : PntD) : pcells (l ++ [p]) = pcells l ++ (pntC p).toList := by simp [pcells]
def PntB (W : World) (b : Nat) (p : PntD) : Prop := W.heap[b]? = some (.cells (pntC p) 58 (0, 0))
theorem PntB.lt {W : World} {b : Nat} {p : PntD} (h : PntB W b p) : b < W.heap.size := lt_of_block h
/-- A point that the maker makes around c. -/
def MadeP (c p : PntD) : Prop := (c.x - 98304 ≤ p.x ∧ p.x ≤ c.x + 98304) ∧ (c.y - 65536 ≤ p.y ∧ p.y ≤ c.y + 65536) ∧ (c.z - 65536 ≤ p.z ∧ p.z ≤ c.z + 65536)
structure PP (B b : Nat) (w : World) (W : World) (c : PntD) (ps : List PntD) (v : Value) : Prop where
  src : Src B W b
  bt : But b w W
  box : PntB W w.heap.size c
  own : W.ownsRow (w.heap.size + 1) 58 3 v ps.length (pcells ps)
  bw : b < w.heap.size
  Bb : B ≤ b
theorem PP.drew {B b : Nat} {w W : World} {c : PntD} {ps : List PntD} {v : Value} (h : PP B b w W c ps v) : PP B b w W.drew c ps v := ⟨h.src, h.bt.drew, h.box, h.own, h.bw, h.Bb⟩
theorem PP.next {B b : Nat} {w W V : World} {c : PntD} {ps : List PntD} {v : Value} (h : PP B b w W c ps v) (hs : Src B V b) (hb : But b W V) : PP B b w V c ps v := by
  have h1 := h.bw
  exact ⟨hs, h.bt.trans hb, (hb.block _ h.box.lt (by omega)).trans h.box, own_but h.own hb (by omega), h1, h.Bb⟩
theorem PP.alloc {B b : Nat} {w W : World} {c : PntD} {ps : List PntD} {v : Value} (h : PP B b w W c ps v) (o : Obj) : PP B b w (W.alloc o) c ps v := h.next (h.src.mk_alloc o) ((But.refl b W).mk_alloc o)
theorem PP.push {B b : Nat} {w W w1 : World} {c p : PntD} {ps : List PntD} {v v' : Value} (h : PP B b w W c ps v) (hown : w1.ownsRow (w.heap.size + 1) 58 3 v' (ps.length + 1) (pcells ps ++ (pntC p).toList)) (hg : W.grownBy w1 v.ownBlock) :
    PP B b w w1 c (ps ++ [p]) v' := by
  have h1 := h.bw
  have h2 := h.Bb
  have hr : ∀ k, v.ownBlock = some k → w.heap.size + 1 ≤ k := fun k hk => (h.own.lt k hk).1
  exact ⟨h.src.by_grown hg (fun k hk => by have := hr k hk; omega), h.bt.by_grown hg (fun k hk => by have := hr k hk; omega), (hg.block _ h.box.lt (fun e => by have := hr _ e.symm; omega)).trans h.box,
    by rw [List.length_append, pcells_snoc]; exact hown, h1, h2⟩
theorem PP.cells {B b : Nat} {w W : World} {c : PntD} {ps : List PntD} {v : Value} (h : PP B b w W c ps v) :
    W.cell? ⟨w.heap.size, 0, none⟩ = some (.int .i64 c.x) ∧ W.cell? ⟨w.heap.size, 1, none⟩ = some (.int .i64 c.y) ∧ W.cell? ⟨w.heap.size, 2, none⟩ = some (.int .i64 c.z) :=
  ⟨cell_of_row W _ 0 _ _ _ h.box, cell_of_row W _ 1 _ _ _ h.box, cell_of_row W _ 2 _ _ _ h.box⟩
theorem info_vecs : (Tryd.prog.info? 58).map (fun i => (i.zero, i.size, i.bytes)) = some (some (.agg (pntC ⟨0, 0, 0⟩)), 3, 24) := by kernel_rfl
theorem under_vecs : Tryd.prog.underlying 86 = some (.slice 58) := by kernel_rfl
theorem pnt_news (W : World) (j : PntD) : ∀ k u, (pntC j).toList[k]? = some u → (W.alloc (.cells (pntC j) 58)).cell? ((⟨W.heap.size, 0, none⟩ : Addr).add k) = some u := by
  intro k u hu
  have : (⟨W.heap.size, 0, none⟩ : Addr).add k = ⟨W.heap.size, k, none⟩ := by unfold Addr.add; split <;> simp_all
  rw [this, cell_of_row _ _ _ _ _ _ (heap_alloc_new _ _)]
  simpa using hu
theorem pnt_ones (j : PntD) : ∀ u ∈ (pntC j).toList, u.oneCell' = true := by
  intro u hu
  simp [pntC] at hu
  rcases hu with rfl | rfl | rfl <;> rfl
set_option linter.unusedSimpArgs false in
set_option linter.unusedVariables false in
set_option maxRecDepth 100000 in
set_option maxHeartbeats 6400000 in
theorem points_any (B b : Nat) (cx cy cz : Int) (w : World) (hs : Src B w b) (bw : b < w.heap.size) (Bb : B ≤ b) (x0 : -1048576 ≤ cx ∧ cx ≤ 1048576) (y0 : -1048576 ≤ cy ∧ cy ≤ 1048576) (z0 : -1048576 ≤ cz ∧ cz ≤ 1048576) :
    Calls Tryd.prog 43 #[ .pointer (some ⟨b, 0, none⟩), .agg #[.int .i64 cx, .int .i64 cy, .int .i64 cz] ] w fun e w' => ∃ (ps : List PntD) (v : Value), e = .returned v ∧ w'.ownsRow (w.heap.size + 1) 58 3 v ps.length (pcells ps) ∧ (1 ≤ ps.length ∧ ps.length ≤ 4) ∧
      (∀ k (h : k < ps.length), MadeP ⟨cx, cy, cz⟩ ps[k]) ∧ Src B w' b ∧ But b w w' := by
  obtain ⟨i0, hi, hz0, hz1, hz2⟩ := info_parts info_vecs
  have HI := Lib.hid hi
  have HZ0 := Lib.hid hz0
  have HZ1 := Lib.hid hz1
  have HZ2 := Lib.hid hz2
  clear hi hz0 hz1 hz2
  have HP := Lib.hid (show PP B b w ((w.alloc (.cells (pntC ⟨cx, cy, cz⟩) 58)).alloc (.cells (pntC ⟨cx, cy, cz⟩) 58)) ⟨cx, cy, cz⟩ [⟨cx, cy, cz⟩] (.slice (some ⟨(w.alloc (.cells (pntC ⟨cx, cy, cz⟩) 58)).heap.size, 0, none⟩) 1 1) from
    ⟨(hs.mk_alloc _).mk_alloc _, ((But.refl b w).mk_alloc _).mk_alloc _, (Below.heap_alloc _ _ _ (by simp)).trans (heap_alloc_new _ _), by
      have := World.ownsRow_lit (base := w.heap.size + 1) (e := 58) (size := 3) (w.alloc (.cells (pntC ⟨cx, cy, cz⟩) 58)) (pntC ⟨cx, cy, cz⟩) 1 (by simp) (by decide) rfl
      exact this, bw, Bb⟩)
  clear hs
  simp only [pntC] at HP
  go_enter Tryd.func43, Tryd.ntmps43
  go_wp2_with fail
  refine (Next_any B b 4 _ HP.out.src (by omega) (by omega)).mono ?_
  rintro e w' ⟨q, q0, q1, rfl, hs, hbut⟩
  have HP2 := Lib.hid (HP.out.next hs hbut); clear HP; have HP := HP2; clear HP2 hs hbut
  go_wp2_with fail
  go_loopw [5, 6] (fun v i wr => ∃ (c : Int) (ps : List PntD), 0 ≤ c ∧ (1 ≤ ps.length ∧ ps.length + c ≤ 4) ∧ i = .int .i64 c ∧ (∀ k (h : k < ps.length), MadeP ⟨cx, cy, cz⟩ ps[k]) ∧ PP B b w wr ⟨cx, cy, cz⟩ ps v) (fun _ i _ => (intOf i).toNat)
  case atStart => exact ⟨q, [⟨cx, cy, cz⟩], q0, by simp; omega, rfl, fun k h => by
      have : k = 0 := by simp at h; omega
      subst this; exact ⟨by dsimp only [List.getElem_cons_zero]; omega, by dsimp only [List.getElem_cons_zero]; omega, by dsimp only [List.getElem_cons_zero]; omega⟩, by simpa using HP.out⟩
  case round =>
    obtain ⟨c, ps, hc0, hcm, rfl, hall, hp⟩ := hrel
    clear HP
    have HALL := Lib.hid hall
    clear hall
    by_cases hlt : 0 < c
    · have HP := Lib.hid hp.drew
      clear hp
      go_wp2_with fail
      refine wp_region_held_drew (S := (fun w3 => w3.cell? ⟨w.heap.size, 0, none⟩ = some (.int .i64 cx) ∧ w3.cell? ⟨w.heap.size, 1, none⟩ = some (.int .i64 cy) ∧ w3.cell? ⟨w.heap.size, 2, none⟩ = some (.int .i64 cz))) (by kernel_rfl) ?_ (fun hHeld => ?_)
      focus (first | exact HP.out.cells | exact (HP.out.alloc _).cells)
      refine wpAnyH_take (i := 0) (v := ?_) rfl (by kernel_rfl) (by kernel_rfl) (by kernel_rfl) (fun _ _ _ h => h) (Or.inl ⟨by rfl, ?_⟩) (by assumption) ?_; rotate_left; (focus (intro w hSw; (try dsimp only at hSw); go_simp; try with_reducible rfl)); (try simp only [Act.put, List.getElem_toArray, List.getElem_cons_succ, List.getElem_cons_zero, List.setIfInBounds_toArray, List.set_cons_zero, List.set_cons_succ])
      refine wpAnyH_take (i := 1) (v := ?_) rfl (by kernel_rfl) (by kernel_rfl) (by kernel_rfl) (fun _ _ _ h => h) (Or.inl ⟨by rfl, ?_⟩) (by assumption) ?_; rotate_left; (focus (intro w hSw; (try dsimp only at hSw); go_simp; try with_reducible rfl)); (try simp only [Act.put, List.getElem_toArray, List.getElem_cons_succ, List.getElem_cons_zero, List.setIfInBounds_toArray, List.set_cons_zero, List.set_cons_succ])
      refine wpAnyH_take (i := 2) (v := ?_) rfl (by kernel_rfl) (by kernel_rfl) (by kernel_rfl) (fun _ _ _ h => h) (Or.inl ⟨by rfl, ?_⟩) (by assumption) ?_; rotate_left; (focus (intro w hSw; (try dsimp only at hSw); go_simp; try with_reducible rfl)); (try simp only [Act.put, List.getElem_toArray, List.getElem_cons_succ, List.getElem_cons_zero, List.setIfInBounds_toArray, List.set_cons_zero, List.set_cons_succ])
      refine wpAnyH_take (i := 3) (v := ?_) rfl (by kernel_rfl) (by kernel_rfl) (by kernel_rfl) (fun _ _ _ h => h) (Or.inl ⟨by rfl, ?_⟩) (by assumption) ?_; rotate_left; (focus (intro w hSw; (try dsimp only at hSw); go_simp; try with_reducible rfl)); (try simp only [Act.put, List.getElem_toArray, List.getElem_cons_succ, List.getElem_cons_zero, List.setIfInBounds_toArray, List.set_cons_zero, List.set_cons_succ])
      refine wpAnyH_take (i := 7) (v := ?_) rfl (by kernel_rfl) (by kernel_rfl) (by kernel_rfl) (fun _ _ _ h => h) (Or.inl ⟨by rfl, ?_⟩) (by assumption) ?_; rotate_left; (focus (intro w hSw; (try dsimp only at hSw); go_simp; try with_reducible rfl)); (try simp only [Act.put, List.getElem_toArray, List.getElem_cons_succ, List.getElem_cons_zero, List.setIfInBounds_toArray, List.set_cons_zero, List.set_cons_succ])
      refine wpAnyH_take (i := 8) (v := ?_) rfl (by kernel_rfl) (by kernel_rfl) (by kernel_rfl) (fun _ _ _ h => h) (Or.inl ⟨by rfl, ?_⟩) (by assumption) ?_; rotate_left; (focus (intro w hSw; (try dsimp only at hSw); go_simp; try with_reducible rfl)); (try simp only [Act.put, List.getElem_toArray, List.getElem_cons_succ, List.getElem_cons_zero, List.setIfInBounds_toArray, List.set_cons_zero, List.set_cons_succ])
      refine wpAnyH_take (i := 9) (v := ?_) rfl (by kernel_rfl) (by kernel_rfl) (by kernel_rfl) (fun _ _ _ h => h) (Or.inl ⟨by rfl, ?_⟩) (by assumption) ?_; rotate_left; (focus (intro w hSw; (try dsimp only at hSw); go_simp; try with_reducible rfl)); (try simp only [Act.put, List.getElem_toArray, List.getElem_cons_succ, List.getElem_cons_zero, List.setIfInBounds_toArray, List.set_cons_zero, List.set_cons_succ])
      refine wpAnyH_take (i := 13) (v := ?_) rfl (by kernel_rfl) (by kernel_rfl) (by kernel_rfl) (fun _ _ _ h => h) (Or.inl ⟨by rfl, ?_⟩) (by assumption) ?_; rotate_left; (focus (intro w hSw; (try dsimp only at hSw); go_simp; try with_reducible rfl)); (try simp only [Act.put, List.getElem_toArray, List.getElem_cons_succ, List.getElem_cons_zero, List.setIfInBounds_toArray, List.set_cons_zero, List.set_cons_succ])
      refine wpAnyH_take (i := 14) (v := ?_) rfl (by kernel_rfl) (by kernel_rfl) (by kernel_rfl) (fun _ _ _ h => h) (Or.inl ⟨by rfl, ?_⟩) (by assumption) ?_; rotate_left; (focus (intro w hSw; (try dsimp only at hSw); go_simp; try with_reducible rfl)); (try simp only [Act.put, List.getElem_toArray, List.getElem_cons_succ, List.getElem_cons_zero, List.setIfInBounds_toArray, List.set_cons_zero, List.set_cons_succ])
      refine wpAnyH_take (i := 15) (v := ?_) rfl (by kernel_rfl) (by kernel_rfl) (by kernel_rfl) (fun _ _ _ h => h) (Or.inl ⟨by rfl, ?_⟩) (by assumption) ?_; rotate_left; (focus (intro w hSw; (try dsimp only at hSw); go_simp; try with_reducible rfl)); (try simp only [Act.put, List.getElem_toArray, List.getElem_cons_succ, List.getElem_cons_zero, List.setIfInBounds_toArray, List.set_cons_zero, List.set_cons_succ])
      refine wpAnyH_ready (rs := [4]) (by kernel_rfl) (by simp) (AllReadyH.cons rfl (fun K hK => ?_) AllReadyH.nil); go_simp; ((go_at_call 44; refine (Signed_any B b 3 _ HP.out.src (by omega) (by omega)).mono ?_; rintro e w' ⟨sx, sx0, sx1, rfl, hs, hbut⟩; have HP2 := Lib.hid (HP.out.next hs hbut); clear HP; have HP := HP2; clear HP2 hs hbut; have vsx := IntWalk.i64_in (sx * 32768) (by omega); have usx := IntWalk.i64_in (cx + sx * 32768) (by omega))); go_wp2_with fail; refine hK.out _ _ ?_ (fun hHeld => ?_); (focus (first | exact HP.out.cells | exact (HP.out.alloc _).cells)); clear hK K; (try simp only [Act.put, List.getElem_toArray, List.getElem_cons_succ, List.getElem_cons_zero, List.setIfInBounds_toArray, List.set_cons_zero, List.set_cons_succ])
      refine wpAnyH_take (i := 5) (v := ?_) rfl (by kernel_rfl) (by kernel_rfl) (by kernel_rfl) (fun _ _ _ h => h) (Or.inl ⟨by rfl, ?_⟩) (by assumption) ?_; rotate_left; (focus (intro w hSw; (try dsimp only at hSw); go_simp; try with_reducible rfl)); (try simp only [Act.put, List.getElem_toArray, List.getElem_cons_succ, List.getElem_cons_zero, List.setIfInBounds_toArray, List.set_cons_zero, List.set_cons_succ])
      refine wpAnyH_take (i := 6) (v := ?_) rfl (by kernel_rfl) (by kernel_rfl) (by kernel_rfl) (fun _ _ _ h => h) (Or.inl ⟨by rfl, ?_⟩) (by assumption) ?_; rotate_left; (focus (intro w hSw; (try dsimp only at hSw); go_simp; try with_reducible rfl)); (try simp only [Act.put, List.getElem_toArray, List.getElem_cons_succ, List.getElem_cons_zero, List.setIfInBounds_toArray, List.set_cons_zero, List.set_cons_succ])
      refine wpAnyH_ready (rs := [10]) (by kernel_rfl) (by simp) (AllReadyH.cons rfl (fun K hK => ?_) AllReadyH.nil); go_simp; ((go_at_call 44; refine (Signed_any B b 2 _ HP.out.src (by omega) (by omega)).mono ?_; rintro e w' ⟨sy, sy0, sy1, rfl, hs, hbut⟩; have HP2 := Lib.hid (HP.out.next hs hbut); clear HP; have HP := HP2; clear HP2 hs hbut; have vsy := IntWalk.i64_in (sy * 32768) (by omega); have usy := IntWalk.i64_in (cy + sy * 32768) (by omega))); go_wp2_with fail; refine hK.out _ _ ?_ (fun hHeld => ?_); (focus (first | exact HP.out.cells | exact (HP.out.alloc _).cells)); clear hK K; (try simp only [Act.put, List.getElem_toArray, List.getElem_cons_succ, List.getElem_cons_zero, List.setIfInBounds_toArray, List.set_cons_zero, List.set_cons_succ])
      refine wpAnyH_take (i := 11) (v := ?_) rfl (by kernel_rfl) (by kernel_rfl) (by kernel_rfl) (fun _ _ _ h => h) (Or.inl ⟨by rfl, ?_⟩) (by assumption) ?_; rotate_left; (focus (intro w hSw; (try dsimp only at hSw); go_simp; try with_reducible rfl)); (try simp only [Act.put, List.getElem_toArray, List.getElem_cons_succ, List.getElem_cons_zero, List.setIfInBounds_toArray, List.set_cons_zero, List.set_cons_succ])
      refine wpAnyH_take (i := 12) (v := ?_) rfl (by kernel_rfl) (by kernel_rfl) (by kernel_rfl) (fun _ _ _ h => h) (Or.inl ⟨by rfl, ?_⟩) (by assumption) ?_; rotate_left; (focus (intro w hSw; (try dsimp only at hSw); go_simp; try with_reducible rfl)); (try simp only [Act.put, List.getElem_toArray, List.getElem_cons_succ, List.getElem_cons_zero, List.setIfInBounds_toArray, List.set_cons_zero, List.set_cons_succ])
      refine wpAnyH_ready (rs := [16]) (by kernel_rfl) (by simp) (AllReadyH.cons rfl (fun K hK => ?_) AllReadyH.nil); go_simp; ((go_at_call 44; refine (Signed_any B b 2 _ HP.out.src (by omega) (by omega)).mono ?_; rintro e w' ⟨sz, sz0, sz1, rfl, hs, hbut⟩; have HP2 := Lib.hid (HP.out.next hs hbut); clear HP; have HP := HP2; clear HP2 hs hbut; have vsz := IntWalk.i64_in (sz * 32768) (by omega); have usz := IntWalk.i64_in (cz + sz * 32768) (by omega))); go_wp2_with fail; refine hK.out _ _ ?_ (fun hHeld => ?_); (focus (first | exact HP.out.cells | exact (HP.out.alloc _).cells)); clear hK K; (try simp only [Act.put, List.getElem_toArray, List.getElem_cons_succ, List.getElem_cons_zero, List.setIfInBounds_toArray, List.set_cons_zero, List.set_cons_succ])
      refine wpAnyH_take (i := 17) (v := ?_) rfl (by kernel_rfl) (by kernel_rfl) (by kernel_rfl) (fun _ _ _ h => h) (Or.inl ⟨by rfl, ?_⟩) (by assumption) ?_; rotate_left; (focus (intro w hSw; (try dsimp only at hSw); go_simp; try with_reducible rfl)); (try simp only [Act.put, List.getElem_toArray, List.getElem_cons_succ, List.getElem_cons_zero, List.setIfInBounds_toArray, List.set_cons_zero, List.set_cons_succ])
      refine wpAnyH_take (i := 18) (v := ?_) rfl (by kernel_rfl) (by kernel_rfl) (by kernel_rfl) (fun _ _ _ h => h) (Or.inl ⟨by rfl, ?_⟩) (by assumption) ?_; rotate_left; (focus (intro w hSw; (try dsimp only at hSw); go_simp; try with_reducible rfl)); (try simp only [Act.put, List.getElem_toArray, List.getElem_cons_succ, List.getElem_cons_zero, List.setIfInBounds_toArray, List.set_cons_zero, List.set_cons_succ])
      refine wpAnyH_take (i := 19) (v := ?_) rfl (by kernel_rfl) (by kernel_rfl) (by kernel_rfl) (fun _ _ _ h => h) (Or.inl ⟨by rfl, ?_⟩) (by assumption) ?_; rotate_left; (focus (intro w hSw; (try dsimp only at hSw); go_simp; try with_reducible rfl)); (try simp only [Act.put, List.getElem_toArray, List.getElem_cons_succ, List.getElem_cons_zero, List.setIfInBounds_toArray, List.set_cons_zero, List.set_cons_succ])
      refine wpAnyH_ready (rs := [20]) (by kernel_rfl) (by simp) (AllReadyH.cons rfl (fun K hK => ?_) AllReadyH.nil); go_simp; refine hK.out _ _ ?_ (fun hHeld => ?_); (focus (first | exact HP.out.cells | exact (HP.out.alloc _).cells)); clear hK K; (try simp only [Act.put, List.getElem_toArray, List.getElem_cons_succ, List.getElem_cons_zero, List.setIfInBounds_toArray, List.set_cons_zero, List.set_cons_succ])
      refine wpAnyH_ready (rs := [21]) (by kernel_rfl) (by simp) (AllReadyH.cons rfl (fun K hK => ?_) AllReadyH.nil); rw [if_pos (by rfl)]; have HP2 := Lib.hid (HP.out.alloc (.cells (pntC ⟨cx + sx * 32768, cy + sy * 32768, cz + sz * 32768⟩) 58)); clear HP; have HP := HP2; clear HP2; refine wp_append_own _ (.tmp 15) (.tmp 35) 86 rfl (w.heap.size + 1) 58 i0 (.agg (pntC ⟨0, 0, 0⟩)) 3 24 under_vecs HI.out HZ0.out HZ1.out HZ2.out rfl (by decide) _ ps.length (pcells ps) rfl HP.out.own ⟨_, 0, none⟩ 1 1 (pntC ⟨cx + sx * 32768, cy + sy * 32768, cz + sz * 32768⟩).toList rfl (by rfl) (pnt_news _ ⟨cx + sx * 32768, cy + sy * 32768, cz + sz * 32768⟩) (pnt_ones _) (by unfold maxLen; omega) (by omega) HP.out.box.lt ?_; intro v' w1 hown' hgrow _; have HP2 := Lib.hid (HP.out.push hown' hgrow); clear HP hown' hgrow; have HP := HP2; clear HP2; refine hK.out _ _ ?_ (fun hHeld => ?_); (focus (first | exact HP.out.cells | exact (HP.out.alloc _).cells)); clear hK K; (try simp only [Act.put, List.getElem_toArray, List.getElem_cons_succ, List.getElem_cons_zero, List.setIfInBounds_toArray, List.set_cons_zero, List.set_cons_succ])
      refine wpAnyH_take (i := 22) (v := ?_) rfl (by kernel_rfl) (by kernel_rfl) (by kernel_rfl) (fun _ _ _ h => h) (Or.inl ⟨by rfl, ?_⟩) (by assumption) ?_; rotate_left; (focus (intro w hSw; (try dsimp only at hSw); go_simp; try with_reducible rfl)); (try simp only [Act.put, List.getElem_toArray, List.getElem_cons_succ, List.getElem_cons_zero, List.setIfInBounds_toArray, List.set_cons_zero, List.set_cons_succ])
      refine wpAnyH_done (by kernel_rfl) ?_ _
      go_wp2_with fail
      go_roundw
      case rel => exact ⟨c - 1, ps ++ [⟨cx + sx * 32768, cy + sy * 32768, cz + sz * 32768⟩], by omega, by rw [List.length_append]; simp; omega, rfl, fun k hk => all_snoc (P := fun _ p => MadeP ⟨cx, cy, cz⟩ p) HALL.out ⟨by dsimp only; omega, by dsimp only; omega, by dsimp only; omega⟩ k hk, HP.out⟩
      case measure => simp [intOf]; omega
    · have HP := Lib.hid hp
      clear hp
      go_wp2_with fail
      go_ret
      exact ⟨ps, _, rfl, HP.out.own, by omega, HALL.out, HP.out.src, HP.out.bt⟩
end Go.Proofs.YtpaiapcnoifpmaaDoor
