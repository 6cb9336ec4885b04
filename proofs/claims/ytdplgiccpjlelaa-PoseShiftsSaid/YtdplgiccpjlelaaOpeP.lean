/- Proved: a pose that came in by value is numbers, as the walks ask it. Conditions: as each theorem states. -/
import Derived.Test.YtdplgiccpjlelaaOpen
import Derived.Test.YtdplgiccpjlelaaPos
namespace Go.Proofs.Ytdplgiccpjlelaa
open Go.RowKit Go.ChangeShapes Go.WideShapes Go.Joins Go.ChangeAt

theorem okWide_struct {P : Program} {w : World} {r : Reach} {base : Nat} {t : TypeId} {fs : Array Field} {v : Value} (ht : P.underlying t = some (.struct fs)) (h : Value.okWide P w r base t v) : ∃ cs, v = .agg cs ∧ cs.size = P.cellsOf t := by
  simp only [Value.okWide, ht] at h
  obtain ⟨cs, h1, h2, _⟩ := h
  exact ⟨cs, h1, h2⟩
theorem cells_pose : Try.prog.cellsOf 29 = 24 := by kernel_rfl
theorem list24 {cs : Array Value} (h : cs.size = 24) : ∃ c0 c1 c2 c3 c4 c5 c6 c7 c8 c9 c10 c11 c12 c13 c14 c15 c16 c17 c18 c19 c20 c21 c22 c23, cs = #[c0, c1, c2, c3, c4, c5, c6, c7, c8, c9, c10, c11, c12, c13, c14, c15, c16, c17, c18, c19, c20, c21, c22, c23] := by
  obtain ⟨l⟩ := cs
  match l, h with
  | [c0, c1, c2, c3, c4, c5, c6, c7, c8, c9, c10, c11, c12, c13, c14, c15, c16, c17, c18, c19, c20, c21, c22, c23], _ => exact ⟨c0, c1, c2, c3, c4, c5, c6, c7, c8, c9, c10, c11, c12, c13, c14, c15, c16, c17, c18, c19, c20, c21, c22, c23, rfl⟩
/-- Eighteen cells that read as a matrix of intervals. -/
theorem mat_cells {H : Type} {enc : TypeId × Value → H} {w : World} {base : Nat} {sp : Nat → Bool} {hd : Bool} {m : Nat} {c0 c1 c2 c3 c4 c5 c6 c7 c8 c9 c10 c11 c12 c13 c14 c15 c16 c17 : Value} {x : DataW H × List MemPlace}
    (h : DataW.trod enc Try.prog w base sp hd m 26 [c0, c1, c2, c3, c4, c5, c6, c7, c8, c9, c10, c11, c12, c13, c14, c15, c16, c17] = some x) : ∃ u : M3, [c0, c1, c2, c3, c4, c5, c6, c7, c8, c9, c10, c11, c12, c13, c14, c15, c16, c17] = [.int .i64 ((u).x).x.lo, .int .i64 ((u).x).x.hi, .int .i64 ((u).x).y.lo, .int .i64 ((u).x).y.hi, .int .i64 ((u).x).z.lo, .int .i64 ((u).x).z.hi, .int .i64 ((u).y).x.lo, .int .i64 ((u).y).x.hi, .int .i64 ((u).y).y.lo, .int .i64 ((u).y).y.hi, .int .i64 ((u).y).z.lo, .int .i64 ((u).y).z.hi, .int .i64 ((u).z).x.lo, .int .i64 ((u).z).x.hi, .int .i64 ((u).z).y.lo, .int .i64 ((u).z).y.hi, .int .i64 ((u).z).z.lo, .int .i64 ((u).z).z.hi] := by
  obtain ⟨xs, n, _, _, _, hl, hi⟩ := DataW.trod_array Try.underlying26 h
  rw [cells_row] at hi
  have g : ∀ i, i < 3 → ∃ y, xs[i]? = some y := fun i h => ⟨xs[i]'(by omega), List.getElem?_eq_getElem (by omega)⟩
  obtain ⟨y0, g0⟩ := g 0 (by decide)
  obtain ⟨y1, g1⟩ := g 1 (by decide)
  obtain ⟨y2, g2⟩ := g 2 (by decide)
  obtain ⟨a, ha⟩ := row_cells Try.underlying24 ((hi 0 (by decide)).trans g0)
  obtain ⟨b, hb⟩ := row_cells Try.underlying24 ((hi 1 (by decide)).trans g1)
  obtain ⟨c, hc⟩ := row_cells Try.underlying24 ((hi 2 (by decide)).trans g2)
  simp only [List.cons.injEq, and_true] at ha hb hc
  refine ⟨⟨a, b, c⟩, ?_⟩
  simp only [ha, hb, hc]
theorem open_pose {H : Type} {enc : TypeId × Value → H} {w : World} {r : Reach} {b0 base : Nat} {sp : Nat → Bool} {hd : Bool} {v : Value} {d : DataW H} {p : List MemPlace} (hv : Value.okWide Try.prog w r b0 29 v)
    (h : DataW.Trod enc Try.prog w base sp hd 29 v d p) : ∃ u : Mo, v = .agg #[.int .i64 ((u).r.x).x.lo, .int .i64 ((u).r.x).x.hi, .int .i64 ((u).r.x).y.lo, .int .i64 ((u).r.x).y.hi, .int .i64 ((u).r.x).z.lo, .int .i64 ((u).r.x).z.hi, .int .i64 ((u).r.y).x.lo, .int .i64 ((u).r.y).x.hi, .int .i64 ((u).r.y).y.lo, .int .i64 ((u).r.y).y.hi, .int .i64 ((u).r.y).z.lo, .int .i64 ((u).r.y).z.hi, .int .i64 ((u).r.z).x.lo, .int .i64 ((u).r.z).x.hi, .int .i64 ((u).r.z).y.lo, .int .i64 ((u).r.z).y.hi, .int .i64 ((u).r.z).z.lo, .int .i64 ((u).r.z).z.hi, .int .i64 ((u).t).x.lo, .int .i64 ((u).t).x.hi, .int .i64 ((u).t).y.lo, .int .i64 ((u).t).y.hi, .int .i64 ((u).t).z.lo, .int .i64 ((u).t).z.hi] := by
  obtain ⟨cs, rfl, hs⟩ := okWide_struct Try.underlying29 hv
  rw [cells_pose] at hs
  obtain ⟨c0, c1, c2, c3, c4, c5, c6, c7, c8, c9, c10, c11, c12, c13, c14, c15, c16, c17, c18, c19, c20, c21, c22, c23, rfl⟩ := list24 hs
  obtain ⟨fuel, hf⟩ := h
  replace hf : DataW.trod enc Try.prog w base sp hd fuel 29 [c0, c1, c2, c3, c4, c5, c6, c7, c8, c9, c10, c11, c12, c13, c14, c15, c16, c17, c18, c19, c20, c21, c22, c23] = some (d, p) := by simpa [Value.cells] using hf
  obtain ⟨y0, y1, n, _, _, h0, h1⟩ := trod_struct2 Try.underlying29 hf
  obtain ⟨a, ha⟩ := mat_cells (by simpa [cells_mat] using h0)
  obtain ⟨b, hb⟩ := row_cells Try.underlying27 (by simpa [cells_mat, cells_vec] using h1)
  simp only [List.cons.injEq, and_true] at ha hb
  refine ⟨⟨a, b⟩, ?_⟩
  simp only [ha, hb]
end Go.Proofs.Ytdplgiccpjlelaa
