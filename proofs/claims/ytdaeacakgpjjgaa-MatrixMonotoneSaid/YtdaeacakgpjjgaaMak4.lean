/- Proved: the makers of rotations and vectors of the statements of layer 4. Conditions: as each theorem states. -/
import Derived.Test.YtdaeacakgpjjgaaSrc
import Derived.Test.YtdaeacakgpjjgaaMatT
import Derived.Test.YtdaeacakgpjjgaaMatB
namespace Go.Proofs.Ytdaeacakgpjjgaa
open Go.RowKit

theorem But.of_below {b : Nat} {u v : World} (h : Below u.heap.size u v) : But b u v := ⟨h.os, h.tape, h.output, h.size, fun k hk _ => h.block k hk⟩
theorem But.alloc {b : Nat} {u v : World} (h : But b u v) (o : Obj) : But b u (v.alloc o) := h.trans (But.of_below (below_alloc (Below.refl _ _) o))
theorem But.row {b q : Nat} {u v : World} (h : But b u v) (hq : u.heap.size ≤ q) (c : Array Value) : But b u (v.setRow q c) :=
  ⟨h.os, h.tape, h.output, by rw [size_setRow]; exact h.size, fun k hk hb => (setRow_other v q k c (by omega)).trans (h.block k hk hb)⟩
theorem But.cell {b q o : Nat} {u v : World} (h : But b u v) (hq : u.heap.size ≤ q) (x : Value) : But b u (v.setCell ⟨q, o, none⟩ x) :=
  ⟨h.os, h.tape, h.output, by rw [Go.Deep.nblk_setCell]; exact h.size, fun k hk hb => (heap_setCell_other _ _ _ _ (by dsimp only; omega)).trans (h.block k hk hb)⟩
theorem Src.keep {B b : Nat} {u v : World} (h : Src B u b) (e : ∀ k, k = b ∨ k < B → v.heap[k]? = u.heap[k]?) : Src B v b := by
  obtain ⟨ao, n, cap, j, h1, h2, h3, h4, h5⟩ := h
  refine ⟨ao, n, cap, j, (e b (Or.inl rfl)).trans h1, h2, h3, h4, fun t ht => ?_⟩
  obtain ⟨lb, lo, z, e1, hl, hz, z1, z2⟩ := h5 t ht
  exact ⟨lb, lo, z, e1, hl, by rw [World.cell?_of_block (w := u) (e lb (Or.inr hl))]; exact hz, z1, z2⟩
theorem Src.lt {B b : Nat} {u : World} (h : Src B u b) : b < u.heap.size := by obtain ⟨_, _, _, _, h1, _⟩ := h; exact lt_heap h1
theorem Src.base {B b : Nat} {u : World} (h : Src B u b) : B ≤ b := by obtain ⟨_, _, _, _, _, _, _, h4, _⟩ := h; exact h4
theorem MatAt.but {b q : Nat} {u v : World} {m : M3} (h : MatAt u q m) (k : But b u v) (hq : q ≠ b) : MatAt v q m := (k.block q h.lt hq).trans h
theorem VecAt.but {b q : Nat} {u v : World} {m : V3} (h : VecAt u q m) (k : But b u v) (hq : q ≠ b) : VecAt v q m := (k.block q h.lt hq).trans h
def TurnI (B b : Nat) (w : World) (e : Ending) (w' : World) : Prop := ∃ (k : Int) (a : Iv), (k = 0 ∨ k = 1 ∨ k = 2) ∧ (-70000 ≤ a.lo ∧ a.lo ≤ a.hi ∧ a.hi ≤ 88000) ∧ e = .returned (.agg #[.int .i64 ((trnM k a).x).x.lo, .int .i64 ((trnM k a).x).x.hi, .int .i64 ((trnM k a).x).y.lo, .int .i64 ((trnM k a).x).y.hi, .int .i64 ((trnM k a).x).z.lo, .int .i64 ((trnM k a).x).z.hi, .int .i64 ((trnM k a).y).x.lo, .int .i64 ((trnM k a).y).x.hi, .int .i64 ((trnM k a).y).y.lo, .int .i64 ((trnM k a).y).y.hi, .int .i64 ((trnM k a).y).z.lo, .int .i64 ((trnM k a).y).z.hi, .int .i64 ((trnM k a).z).x.lo, .int .i64 ((trnM k a).z).x.hi, .int .i64 ((trnM k a).z).y.lo, .int .i64 ((trnM k a).z).y.hi, .int .i64 ((trnM k a).z).z.lo, .int .i64 ((trnM k a).z).z.hi]) ∧ Src B w' b ∧ But b w w'
set_option linter.unusedSimpArgs false in
set_option linter.unusedVariables false in
set_option maxRecDepth 100000 in
set_option maxHeartbeats 12800000 in
theorem turn_any (B b : Nat) (w : World) (h : Src B w b) :
    Calls Try.prog 16 #[ .pointer (some ⟨b, 0, none⟩) ] w (TurnI B b w) := by
  have hlt := h.lt
  have hB := h.base
  have H0 := Lib.hid (show Src B (w.alloc (.cells #[.int .i64 0, .int .i64 0, .int .i64 0, .int .i64 0, .int .i64 0, .int .i64 0, .int .i64 0, .int .i64 0, .int .i64 0, .int .i64 0, .int .i64 0, .int .i64 0, .int .i64 0, .int .i64 0, .int .i64 0, .int .i64 0, .int .i64 0, .int .i64 0] 28)) b from h.below (below_alloc (Below.refl _ _) _))
  have M0 := Lib.hid (show MatAt (w.alloc (.cells #[.int .i64 0, .int .i64 0, .int .i64 0, .int .i64 0, .int .i64 0, .int .i64 0, .int .i64 0, .int .i64 0, .int .i64 0, .int .i64 0, .int .i64 0, .int .i64 0, .int .i64 0, .int .i64 0, .int .i64 0, .int .i64 0, .int .i64 0, .int .i64 0] 28)) w.heap.size zeroM from MatAt.at_new (v := zeroM) rfl)
  have K0 := Lib.hid (show But b w (w.alloc (.cells #[.int .i64 0, .int .i64 0, .int .i64 0, .int .i64 0, .int .i64 0, .int .i64 0, .int .i64 0, .int .i64 0, .int .i64 0, .int .i64 0, .int .i64 0, .int .i64 0, .int .i64 0, .int .i64 0, .int .i64 0, .int .i64 0, .int .i64 0, .int .i64 0] 28)) from (But.refl b w).alloc _)
  clear h
  go_enter Try.func16, Try.ntmps16
  go_wp2_with fail
  refine (Signed_any B b 70000 _ H0.out (by decide) (by decide)).mono ?_
  rintro e w1 ⟨r, r1, r2, rfl, hs1, hb1⟩
  have M1 := Lib.hid (M0.out.but hb1 (by omega))
  have K1 := Lib.hid (K0.out.trans hb1)
  clear hb1 H0 M0 K0
  go_wp2_with fail
  refine (Next_any B b 3 _ hs1 (by decide) (by decide)).mono ?_
  rintro e w2 ⟨k, k1, k2, rfl, hs2, hb2⟩
  have M2 := Lib.hid (M1.out.but hb2 (by omega))
  have K2 := Lib.hid (K1.out.trans hb2)
  clear hb2 hs1 M1 K1
  go_wp2_with fail
  refine (Next_any B b 3 _ hs2 (by decide) (by decide)).mono ?_
  rintro e w3 ⟨p, p1, p2, rfl, hs3, hb3⟩
  have M3 := Lib.hid (M2.out.but hb3 (by omega))
  have K3 := Lib.hid (K2.out.trans hb3)
  clear hb3 hs2 M2 K2
  go_wp2_with fail
  refine (Next_any B b 9000 _ hs3 (by decide) (by decide)).mono ?_
  rintro e w4 ⟨q, q1, q2, rfl, hs4, hb4⟩
  have M4 := Lib.hid (M3.out.but hb4 (by omega))
  have K4 := Lib.hid (K3.out.trans hb4)
  clear hb4 hs3 M3 K3
  obtain ⟨d, hd⟩ : ∃ d, p * q = d := ⟨_, rfl⟩
  have d0 : 0 ≤ d := by rw [← hd]; exact Int.mul_nonneg p1 q1
  have d1 : d ≤ 17998 := by
    have e1 : p * q ≤ 2 * q := Int.mul_le_mul_of_nonneg_right (by omega) q1
    omega
  go_wp2_with fail
  refine (rTurn_any k ⟨r, r + d⟩ _).mono ?_
  rintro e w5 ⟨rfl, hb5⟩
  have M5 := M4.out.below hb5
  have K5 := Lib.hid (K4.out.trans (But.of_below hb5))
  have S5 := Lib.hid (hs4.below hb5)
  clear hb5 hs4 M4 K4
  go_wp2_with (first | (refine wpList_store_row rfl 28 _ _ rfl w.heap.size (matC (trnM k ⟨r, r + d⟩)) rfl rfl 28 (matC zeroM) M5 info_mat rfl (mat_one _) ?_))
  (try simp only [Exit.inBlock, Exit.then])
  refine bodyPost_ret (v := .agg (matC (trnM k ⟨r, r + d⟩))) ?_ rfl ⟨k, ⟨r, r + d⟩, by omega, ⟨r1, by dsimp only; omega, by dsimp only; omega⟩, rfl, S5.out.keep (fun x hx => setRow_other _ _ _ _ (by omega)), K5.out.row (Nat.le_refl _) _⟩
  exact results_cell_row rfl _ _ w.heap.size 28 _ (0, 0) _ rfl (M5.put _) under_mat rfl info_mat
/-- An interval of moderate size. -/
def OkI (x : Iv) : Prop := -327680 ≤ x.lo ∧ x.lo ≤ x.hi ∧ x.hi ≤ 407678
def OkV (v : V3) : Prop := OkI v.x ∧ OkI v.y ∧ OkI v.z
theorem OkI.valid {x : Iv} (h : OkI x) : Valid x := by obtain ⟨h1, h2, h3⟩ := h; exact ⟨by omega, h2, by omega⟩
theorem OkV.valid {v : V3} (h : OkV v) : VV v := ⟨h.1.valid, h.2.1.valid, h.2.2.valid⟩
theorem VecAt.cellk {W : World} {b k : Nat} {v : V3} (h : VecAt W b v) (hk : k < 3) : W.cell? ⟨b, k * 2, none⟩ = some (.int .i64 (v.at k).lo) ∧ W.cell? ⟨b, k * 2 + 1, none⟩ = some (.int .i64 (v.at k).hi) := by
  match k, hk with
  | 0, _ => exact ⟨h.c0, h.c1⟩
  | 1, _ => exact ⟨h.c2, h.c3⟩
  | 2, _ => exact ⟨h.c4, h.c5⟩
theorem VecAt.putk {W : World} {b k : Nat} {v : V3} (x : Iv) (h : VecAt W b v) (hk : k < 3) (hv : OkV v) (hx : OkI x) : ∃ u, VecAt ((W.setCell ⟨b, k * 2, none⟩ (.int .i64 x.lo)).setCell ⟨b, k * 2 + 1, none⟩ (.int .i64 x.hi)) b u ∧ OkV u := by
  have h1 := heap_setCell_same W b (k * 2) _ _ (.int .i64 x.lo) h
  have h2 := heap_setCell_same _ b (k * 2 + 1) _ _ (.int .i64 x.hi) h1
  match k, hk, h2 with
  | 0, _, h2 => exact ⟨⟨x, v.y, v.z⟩, h2, hx, hv.2.1, hv.2.2⟩
  | 1, _, h2 => exact ⟨⟨v.x, x, v.z⟩, h2, hv.1, hx, hv.2.2⟩
  | 2, _, h2 => exact ⟨⟨v.x, v.y, x⟩, h2, hv.1, hv.2.1, hx⟩
def VecI (B b : Nat) (w : World) (e : Ending) (w' : World) : Prop := ∃ v : V3, OkV v ∧ e = .returned (.agg #[.int .i64 (v).x.lo, .int .i64 (v).x.hi, .int .i64 (v).y.lo, .int .i64 (v).y.hi, .int .i64 (v).z.lo, .int .i64 (v).z.hi]) ∧ Src B w' b ∧ But b w w'
set_option linter.unusedSimpArgs false in
set_option linter.unusedVariables false in
set_option maxRecDepth 100000 in
set_option maxHeartbeats 12800000 in
theorem vec_any (B b : Nat) (w : World) (h : Src B w b) :
    Calls Try.prog 17 #[ .pointer (some ⟨b, 0, none⟩) ] w (VecI B b w) := by
  have hlt := h.lt
  have hB := h.base
  have H0 := Lib.hid (show Src B ((w.alloc (.cells #[.int .i64 0, .int .i64 0, .int .i64 0, .int .i64 0, .int .i64 0, .int .i64 0] 31)).alloc (.cells #[.int .i64 0, .int .i64 0, .int .i64 0, .int .i64 0, .int .i64 0, .int .i64 0] 31)) b from h.below (below_alloc (below_alloc (Below.refl _ _) _) _))
  clear h
  go_enter Try.func17, Try.ntmps17
  go_wp2_with fail
  go_loopw [4] (fun i wr => ∃ (k : Nat) (v : V3), k ≤ 3 ∧ i = .int .i64 k ∧ OkV v ∧ VecAt wr w.heap.size zeroV ∧ VecAt wr (w.heap.size + 1) v ∧ Src B wr b ∧ But b w wr) (fun i _ => 3 - (intOf i).toNat)
  case atStart =>
    refine ⟨0, zeroV, by omega, rfl, ⟨⟨by decide, by decide, by decide⟩, ⟨by decide, by decide, by decide⟩, ⟨by decide, by decide, by decide⟩⟩, ?_, ?_, H0.out, ((But.refl b w).alloc _).alloc _⟩
    · exact VecAt.alloc (VecAt.at_new (v := zeroV) rfl) _
    · exact VecAt.at_new (v := zeroV) (by simp)
  case round =>
    obtain ⟨k, v, hk, rfl, hv, r0, r1, hs, hb⟩ := hrel
    by_cases h3 : k < 3
    · have x3 : (k : Int) < 3 := by omega
      have R0 := Lib.hid r0
      have R1 := Lib.hid r1
      have S0 := Lib.hid hs
      have K0 := Lib.hid hb
      clear r0 r1 hs hb
      go_wp2_with fail
      refine (Signed_any B b 327680 _ S0.out (by decide) (by decide)).mono ?_
      rintro e w1 ⟨r, r1, r2, rfl, hs1, hb1⟩
      have A1 := Lib.hid (R0.out.but hb1 (by omega))
      have B1 := Lib.hid (R1.out.but hb1 (by omega))
      have K1 := Lib.hid (K0.out.trans hb1)
      clear hb1
      go_wp2_with fail
      refine (Next_any B b 3 _ hs1 (by decide) (by decide)).mono ?_
      rintro e w2 ⟨p, p1, p2, rfl, hs2, hb2⟩
      have A2 := Lib.hid (A1.out.but hb2 (by omega))
      have B2 := Lib.hid (B1.out.but hb2 (by omega))
      have K2 := Lib.hid (K1.out.trans hb2)
      clear hb2 hs1
      go_wp2_with fail
      refine (Next_any B b 40000 _ hs2 (by decide) (by decide)).mono ?_
      rintro e w3 ⟨q, q1, q2, rfl, hs3, hb3⟩
      have A3 := Lib.hid (A2.out.but hb3 (by omega))
      have B3 := Lib.hid (B2.out.but hb3 (by omega))
      have K3 := Lib.hid (K2.out.trans hb3)
      clear hb3 hs2
      obtain ⟨d, hd⟩ : ∃ d, p * q = d := ⟨_, rfl⟩
      have d0 : 0 ≤ d := by rw [← hd]; exact Int.mul_nonneg p1 q1
      have d1 : d ≤ 79998 := by
        have e1 : p * q ≤ 2 * q := Int.mul_le_mul_of_nonneg_right (by omega) q1
        omega
      obtain ⟨c0, c1⟩ := B3.out.cellk h3
      have f0 := B3.out.free (k * 2)
      have f1 := B3.out.free (k * 2 + 1)
      have S3 := Lib.hid hs3
      clear hs3
      go_wp2_with fail
      obtain ⟨u, hu, ho⟩ := B3.out.putk (k := k) ⟨r, r + d⟩ h3 hv ⟨r1, by dsimp only; omega, by dsimp only; omega⟩
      go_roundw
      case rel =>
        refine ⟨k + 1, u, by omega, by go_num, ho, ?_, hu, ?_, ?_⟩
        · exact (A3.out.far (by omega)).far (by omega)
        · exact S3.out.keep (fun x hx => by rw [heap_setCell_other _ _ _ _ (by dsimp only; omega), heap_setCell_other _ _ _ _ (by dsimp only; omega)])
        · exact (K3.out.cell (by omega) _).cell (by omega) _
      case measure => simp [intOf]; omega
    · obtain rfl : k = 3 := by omega
      have hst := store_vec (P := Try.prog) v r0
      go_wp2_with (first | (refine wpList_load_row rfl 31 _ rfl (w.heap.size + 1) rfl 31 _ (0, 0) _ r1 under_vec rfl info_vec ?_))
      (try simp only [Exit.inBlock, Exit.then])
      refine bodyPost_ret (v := .agg (vecC v)) ?_ rfl ⟨v, hv, rfl, hs.keep (fun x hx => setRow_other _ _ _ _ (by omega)), hb.row (Nat.le_refl _) _⟩
      exact results_cell_row rfl _ _ w.heap.size 31 _ (0, 0) _ rfl (r0.put _) under_vec rfl info_vec
end Go.Proofs.Ytdaeacakgpjjgaa
