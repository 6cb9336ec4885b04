/- Proved: the makers of rotations and vectors of the statements of layer 4. Conditions: as each theorem states. -/
import Derived.Test.YtdplgiccpjlelaaSrc
import Derived.Test.YtdplgiccpjlelaaMatT
import Derived.Test.YtdplgiccpjlelaaMatF
namespace Go.Proofs.Ytdplgiccpjlelaa
open Go.RowKit

theorem But.of_below {b : Nat} {u v : World} (h : Below u.heap.size u v) : But b u v := ⟨h.os, h.tape, h.output, h.size, fun k hk _ => h.block k hk⟩
theorem But.alloc {b : Nat} {u v : World} (h : But b u v) (o : Obj) : But b u (v.alloc o) := h.trans (But.of_below (below_alloc (Below.refl _ _) o))
theorem But.row {b q : Nat} {u v : World} (h : But b u v) (hq : u.heap.size ≤ q) (c : Array Value) : But b u (v.setRow q c) :=
  ⟨h.os, h.tape, h.output, by rw [size_setRow]; exact h.size, fun k hk hb => (setRow_other v q k c (by omega)).trans (h.block k hk hb)⟩
theorem But.cell {b q o : Nat} {u v : World} (h : But b u v) (hq : u.heap.size ≤ q) (x : Value) : But b u (v.setCell ⟨q, o, none⟩ x) :=
  ⟨h.os, h.tape, h.output, by rw [Go.Deep.nblk_setCell]; exact h.size, fun k hk hb => (heap_setCell_other _ _ _ _ (by dsimp only; omega)).trans (h.block k hk hb)⟩
theorem Src.keep {B b : Nat} {u v : World} (h : Src B u b) (e : ∀ k, k = b ∨ k < B → v.heap[k]? = u.heap[k]?) : Src B v b := by
  obtain ⟨ao, n, cap, j, h1, h2, h3, h4, h5⟩ := h
  refine ⟨ao, n, cap, j, (e b (Or.inl rfl)).trans h1, h2, h3, h4, fun t ht => ?_⟩
  obtain ⟨lb, lo, z, e1, hl, hz, z1, z2⟩ := h5 t ht
  exact ⟨lb, lo, z, e1, hl, by rw [World.cell?_of_block (w := u) (e lb (Or.inr hl))]; exact hz, z1, z2⟩
theorem Src.lt {B b : Nat} {u : World} (h : Src B u b) : b < u.heap.size := by obtain ⟨_, _, _, _, h1, _⟩ := h; exact lt_heap h1
theorem Src.base {B b : Nat} {u : World} (h : Src B u b) : B ≤ b := by obtain ⟨_, _, _, _, _, _, _, h4, _⟩ := h; exact h4
theorem MatAt.but {b q : Nat} {u v : World} {m : M3} (h : MatAt u q m) (k : But b u v) (hq : q ≠ b) : MatAt v q m := (k.block q h.lt hq).trans h
theorem VecAt.but {b q : Nat} {u v : World} {m : V3} (h : VecAt u q m) (k : But b u v) (hq : q ≠ b) : VecAt v q m := (k.block q h.lt hq).trans h
def TurnI (B b : Nat) (w : World) (e : Ending) (w' : World) : Prop := ∃ (k : Int) (a : Iv), (k = 0 ∨ k = 1 ∨ k = 2) ∧ (-70000 ≤ a.lo ∧ a.lo ≤ a.hi ∧ a.hi ≤ 88000) ∧ e = .returned (.agg #[.int .i64 ((trnM k a).x).x.lo, .int .i64 ((trnM k a).x).x.hi, .int .i64 ((trnM k a).x).y.lo, .int .i64 ((trnM k a).x).y.hi, .int .i64 ((trnM k a).x).z.lo, .int .i64 ((trnM k a).x).z.hi, .int .i64 ((trnM k a).y).x.lo, .int .i64 ((trnM k a).y).x.hi, .int .i64 ((trnM k a).y).y.lo, .int .i64 ((trnM k a).y).y.hi, .int .i64 ((trnM k a).y).z.lo, .int .i64 ((trnM k a).y).z.hi, .int .i64 ((trnM k a).z).x.lo, .int .i64 ((trnM k a).z).x.hi, .int .i64 ((trnM k a).z).y.lo, .int .i64 ((trnM k a).z).y.hi, .int .i64 ((trnM k a).z).z.lo, .int .i64 ((trnM k a).z).z.hi]) ∧ Src B w' b ∧ But b w w'
/-- An interval of moderate size. -/
def OkI (x : Iv) : Prop := -327680 ≤ x.lo ∧ x.lo ≤ x.hi ∧ x.hi ≤ 407678
def OkV (v : V3) : Prop := OkI v.x ∧ OkI v.y ∧ OkI v.z
theorem OkI.valid {x : Iv} (h : OkI x) : Valid x := by obtain ⟨h1, h2, h3⟩ := h; exact ⟨by omega, h2, by omega⟩
theorem OkV.valid {v : V3} (h : OkV v) : VV v := ⟨h.1.valid, h.2.1.valid, h.2.2.valid⟩
theorem VecAt.cellk {W : World} {b k : Nat} {v : V3} (h : VecAt W b v) (hk : k < 3) : W.cell? ⟨b, k * 2, none⟩ = some (.int .i64 (v.at k).lo) ∧ W.cell? ⟨b, k * 2 + 1, none⟩ = some (.int .i64 (v.at k).hi) := by
  match k, hk with
  | 0, _ => exact ⟨h.c0, h.c1⟩
  | 1, _ => exact ⟨h.c2, h.c3⟩
  | 2, _ => exact ⟨h.c4, h.c5⟩
theorem VecAt.putk {W : World} {b k : Nat} {v : V3} (x : Iv) (h : VecAt W b v) (hk : k < 3) (hv : OkV v) (hx : OkI x) : ∃ u, VecAt ((W.setCell ⟨b, k * 2, none⟩ (.int .i64 x.lo)).setCell ⟨b, k * 2 + 1, none⟩ (.int .i64 x.hi)) b u ∧ OkV u := by
  have h1 := heap_setCell_same W b (k * 2) _ _ (.int .i64 x.lo) h
  have h2 := heap_setCell_same _ b (k * 2 + 1) _ _ (.int .i64 x.hi) h1
  match k, hk, h2 with
  | 0, _, h2 => exact ⟨⟨x, v.y, v.z⟩, h2, hx, hv.2.1, hv.2.2⟩
  | 1, _, h2 => exact ⟨⟨v.x, x, v.z⟩, h2, hv.1, hx, hv.2.2⟩
  | 2, _, h2 => exact ⟨⟨v.x, v.y, x⟩, h2, hv.1, hv.2.1, hx⟩
def VecI (B b : Nat) (w : World) (e : Ending) (w' : World) : Prop := ∃ v : V3, OkV v ∧ e = .returned (.agg #[.int .i64 (v).x.lo, .int .i64 (v).x.hi, .int .i64 (v).y.lo, .int .i64 (v).y.hi, .int .i64 (v).z.lo, .int .i64 (v).z.hi]) ∧ Src B w' b ∧ But b w w'
end Go.Proofs.Ytdplgiccpjlelaa
