/- Proved: a vector and a matrix of intervals that came in by value are numbers, as the walks ask them. Conditions: as each theorem states. -/
import Derived.Test.YtdplgiccpjlelaaList
import Derived.Test.YtdplgiccpjlelaaMat5
import Derived.Lib.SmallJoins
namespace Go.Proofs.Ytdplgiccpjlelaa
open Go.RowKit Go.ChangeShapes Go.WideShapes Go.Joins Go.ChangeAt

theorem okWide_array {P : Program} {w : World} {r : Reach} {base : Nat} {t e : TypeId} {n : Nat} {v : Value} (ht : P.underlying t = some (.array n e)) (h : Value.okWide P w r base t v) : ∃ cs, v = .agg cs ∧ cs.size = P.cellsOf t := by
  simp only [Value.okWide, ht] at h
  obtain ⟨cs, h1, h2, _⟩ := h
  exact ⟨cs, h1, h2⟩
theorem cells_int : Try.prog.cellsOf 2 = 1 := by kernel_rfl
theorem cells_iv : Try.prog.cellsOf 23 = 2 := by kernel_rfl
theorem cells_row : Try.prog.cellsOf 24 = 6 := by kernel_rfl
theorem cells_vec : Try.prog.cellsOf 27 = 6 := by kernel_rfl
theorem cells_mat : Try.prog.cellsOf 26 = 18 := by kernel_rfl
/-- Two cells that read as an interval. -/
theorem iv_cells {H : Type} {enc : TypeId × Value → H} {w : World} {base : Nat} {sp : Nat → Bool} {hd : Bool} {m : Nat} {c0 c1 : Value} {x : DataW H × List MemPlace} (h : DataW.trod enc Try.prog w base sp hd m 23 [c0, c1] = some x) :
    ∃ a : Iv, c0 = .int .i64 a.lo ∧ c1 = .int .i64 a.hi := by
  obtain ⟨y0, y1, n, _, _, h0, h1⟩ := trod_struct2 Try.underlying23 h
  obtain ⟨a, e0, r0, _⟩ := DataW.trod_int Try.underlying2 (by simpa using h0)
  obtain ⟨b, e1, r1, _⟩ := DataW.trod_int Try.underlying2 (by simpa using h1)
  exact ⟨⟨a, b⟩, by simpa [cells_int] using e0, by simpa [cells_int] using e1⟩
/-- Six cells that read as an array of three intervals. -/
theorem row_cells {H : Type} {enc : TypeId × Value → H} {w : World} {base : Nat} {sp : Nat → Bool} {hd : Bool} {m : Nat} {t : TypeId} {c0 c1 c2 c3 c4 c5 : Value} {x : DataW H × List MemPlace} (ht : Try.prog.underlying t = some (.array 3 23))
    (h : DataW.trod enc Try.prog w base sp hd m t [c0, c1, c2, c3, c4, c5] = some x) : ∃ v : V3, [c0, c1, c2, c3, c4, c5] = [.int .i64 (v).x.lo, .int .i64 (v).x.hi, .int .i64 (v).y.lo, .int .i64 (v).y.hi, .int .i64 (v).z.lo, .int .i64 (v).z.hi] := by
  obtain ⟨xs, n, _, _, _, hl, hi⟩ := DataW.trod_array ht h
  rw [cells_iv] at hi
  have g : ∀ i, i < 3 → ∃ y, xs[i]? = some y := fun i h => ⟨xs[i]'(by omega), List.getElem?_eq_getElem (by omega)⟩
  obtain ⟨y0, g0⟩ := g 0 (by decide)
  obtain ⟨y1, g1⟩ := g 1 (by decide)
  obtain ⟨y2, g2⟩ := g 2 (by decide)
  obtain ⟨a, a0, a1⟩ := iv_cells ((hi 0 (by decide)).trans g0)
  obtain ⟨b, b0, b1⟩ := iv_cells ((hi 1 (by decide)).trans g1)
  obtain ⟨c, k0, k1⟩ := iv_cells ((hi 2 (by decide)).trans g2)
  exact ⟨⟨a, b, c⟩, by rw [a0, a1, b0, b1, k0, k1]⟩
theorem list6 {cs : Array Value} (h : cs.size = 6) : ∃ c0 c1 c2 c3 c4 c5, cs = #[c0, c1, c2, c3, c4, c5] := by
  obtain ⟨l⟩ := cs
  match l, h with
  | [c0, c1, c2, c3, c4, c5], _ => exact ⟨c0, c1, c2, c3, c4, c5, rfl⟩
theorem open_vec {H : Type} {enc : TypeId × Value → H} {w : World} {r : Reach} {b0 base : Nat} {sp : Nat → Bool} {hd : Bool} {v : Value} {d : DataW H} {p : List MemPlace} (hv : Value.okWide Try.prog w r b0 27 v)
    (h : DataW.Trod enc Try.prog w base sp hd 27 v d p) : ∃ u : V3, v = .agg #[.int .i64 (u).x.lo, .int .i64 (u).x.hi, .int .i64 (u).y.lo, .int .i64 (u).y.hi, .int .i64 (u).z.lo, .int .i64 (u).z.hi] := by
  obtain ⟨cs, rfl, hs⟩ := okWide_array Try.underlying27 hv
  rw [cells_vec] at hs
  obtain ⟨c0, c1, c2, c3, c4, c5, rfl⟩ := list6 hs
  obtain ⟨fuel, hf⟩ := h
  obtain ⟨u, hu⟩ := row_cells Try.underlying27 (by simpa [Value.cells] using hf)
  exact ⟨u, by simpa using hu⟩
theorem list18 {cs : Array Value} (h : cs.size = 18) : ∃ c0 c1 c2 c3 c4 c5 c6 c7 c8 c9 c10 c11 c12 c13 c14 c15 c16 c17, cs = #[c0, c1, c2, c3, c4, c5, c6, c7, c8, c9, c10, c11, c12, c13, c14, c15, c16, c17] := by
  obtain ⟨l⟩ := cs
  match l, h with
  | [c0, c1, c2, c3, c4, c5, c6, c7, c8, c9, c10, c11, c12, c13, c14, c15, c16, c17], _ => exact ⟨c0, c1, c2, c3, c4, c5, c6, c7, c8, c9, c10, c11, c12, c13, c14, c15, c16, c17, rfl⟩
theorem open_mat {H : Type} {enc : TypeId × Value → H} {w : World} {r : Reach} {b0 base : Nat} {sp : Nat → Bool} {hd : Bool} {v : Value} {d : DataW H} {p : List MemPlace} (hv : Value.okWide Try.prog w r b0 26 v)
    (h : DataW.Trod enc Try.prog w base sp hd 26 v d p) : ∃ u : M3, v = .agg #[.int .i64 ((u).x).x.lo, .int .i64 ((u).x).x.hi, .int .i64 ((u).x).y.lo, .int .i64 ((u).x).y.hi, .int .i64 ((u).x).z.lo, .int .i64 ((u).x).z.hi, .int .i64 ((u).y).x.lo, .int .i64 ((u).y).x.hi, .int .i64 ((u).y).y.lo, .int .i64 ((u).y).y.hi, .int .i64 ((u).y).z.lo, .int .i64 ((u).y).z.hi, .int .i64 ((u).z).x.lo, .int .i64 ((u).z).x.hi, .int .i64 ((u).z).y.lo, .int .i64 ((u).z).y.hi, .int .i64 ((u).z).z.lo, .int .i64 ((u).z).z.hi] := by
  obtain ⟨cs, rfl, hs⟩ := okWide_array Try.underlying26 hv
  rw [cells_mat] at hs
  obtain ⟨c0, c1, c2, c3, c4, c5, c6, c7, c8, c9, c10, c11, c12, c13, c14, c15, c16, c17, rfl⟩ := list18 hs
  obtain ⟨fuel, hf⟩ := h
  replace hf : DataW.trod enc Try.prog w base sp hd fuel 26 [c0, c1, c2, c3, c4, c5, c6, c7, c8, c9, c10, c11, c12, c13, c14, c15, c16, c17] = some (d, p) := by simpa [Value.cells] using hf
  obtain ⟨xs, n, _, _, _, hl, hi⟩ := DataW.trod_array Try.underlying26 hf
  rw [cells_row] at hi
  have g : ∀ i, i < 3 → ∃ y, xs[i]? = some y := fun i h => ⟨xs[i]'(by omega), List.getElem?_eq_getElem (by omega)⟩
  obtain ⟨y0, g0⟩ := g 0 (by decide)
  obtain ⟨y1, g1⟩ := g 1 (by decide)
  obtain ⟨y2, g2⟩ := g 2 (by decide)
  obtain ⟨a, ha⟩ := row_cells Try.underlying24 ((hi 0 (by decide)).trans g0)
  obtain ⟨b, hb⟩ := row_cells Try.underlying24 ((hi 1 (by decide)).trans g1)
  obtain ⟨c, hc⟩ := row_cells Try.underlying24 ((hi 2 (by decide)).trans g2)
  simp only [List.cons.injEq, and_true] at ha hb hc
  refine ⟨⟨a, b, c⟩, ?_⟩
  simp only [ha, hb, hc]
theorem cells_pnt : Try.prog.cellsOf 44 = 3 := by kernel_rfl
theorem list3 {cs : Array Value} (h : cs.size = 3) : ∃ c0 c1 c2, cs = #[c0, c1, c2] := by
  obtain ⟨l⟩ := cs
  match l, h with
  | [c0, c1, c2], _ => exact ⟨c0, c1, c2, rfl⟩
theorem open_pnt {H : Type} {enc : TypeId × Value → H} {w : World} {r : Reach} {b0 base : Nat} {sp : Nat → Bool} {hd : Bool} {v : Value} {d : DataW H} {p : List MemPlace} (hv : Value.okWide Try.prog w r b0 44 v)
    (h : DataW.Trod enc Try.prog w base sp hd 44 v d p) : ∃ a b c : Int, v = .agg #[.int .i64 a, .int .i64 b, .int .i64 c] := by
  obtain ⟨cs, rfl, hs⟩ := okWide_array Try.underlying44 hv
  rw [cells_pnt] at hs
  obtain ⟨c0, c1, c2, rfl⟩ := list3 hs
  obtain ⟨fuel, hf⟩ := h
  replace hf : DataW.trod enc Try.prog w base sp hd fuel 44 [c0, c1, c2] = some (d, p) := by simpa [Value.cells] using hf
  obtain ⟨xs, n, _, _, _, hl, hi⟩ := DataW.trod_array Try.underlying44 hf
  rw [cells_int] at hi
  have g : ∀ i, i < 3 → ∃ y, xs[i]? = some y := fun i h => ⟨xs[i]'(by omega), List.getElem?_eq_getElem (by omega)⟩
  obtain ⟨y0, g0⟩ := g 0 (by decide)
  obtain ⟨y1, g1⟩ := g 1 (by decide)
  obtain ⟨y2, g2⟩ := g 2 (by decide)
  obtain ⟨a, e0, _, _⟩ := DataW.trod_int Try.underlying2 ((hi 0 (by decide)).trans g0)
  obtain ⟨b, e1, _, _⟩ := DataW.trod_int Try.underlying2 ((hi 1 (by decide)).trans g1)
  obtain ⟨c, e2, _, _⟩ := DataW.trod_int Try.underlying2 ((hi 2 (by decide)).trans g2)
  simp at e0 e1 e2
  exact ⟨a, b, c, by rw [e0, e1, e2]⟩
end Go.Proofs.Ytdplgiccpjlelaa
