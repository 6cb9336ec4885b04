/- Proved: a robot that came in by value reads as two lists, joints and masses, as the walks ask it. Conditions: as each theorem states. -/
import Derived.Test.YtpaiapcnoifpmaaDoorRb3
import Derived.Test.YtpaiapcnoifpmaaDoorRows
import Derived.Deep.Slices
import Derived.Deep.Strs
import Derived.SizedLaws
namespace Go.Proofs.YtpaiapcnoifpmaaDoor
open Go.RowKit Go.Deep Go.ChangeShapes Go.WideShapes

theorem cellsRb_str : Tryd.prog.cellsOf 9 = 1 := by kernel_rfl
theorem cellsRb_int : Tryd.prog.cellsOf 3 = 1 := by kernel_rfl
theorem cellsRb_i64 : Tryd.prog.cellsOf 2 = 1 := by kernel_rfl
theorem cellsRb_vec : Tryd.prog.cellsOf 58 = 3 := by kernel_rfl
theorem cellsRb_joint : Tryd.prog.cellsOf 60 = 12 := by kernel_rfl
theorem cellsRb_mass : Tryd.prog.cellsOf 74 = 5 := by kernel_rfl
theorem cellsRb_js : Tryd.prog.cellsOf 22 = 1 := by kernel_rfl
theorem cellsRb_ms : Tryd.prog.cellsOf 23 = 1 := by kernel_rfl
theorem cellsRb_rob : Tryd.prog.cellsOf 25 = 2 := by kernel_rfl
theorem bytesRb_joint : 16 ≤ Tryd.prog.bytesOf 60 := of_decide_eq_true (by kernel_rfl)
theorem bytesRb_mass : 16 ≤ Tryd.prog.bytesOf 74 := of_decide_eq_true (by kernel_rfl)
instance : Inhabited JointD := ⟨zeroJ⟩
instance : Inhabited MassD := ⟨⟨0, 0, 0, 0, 0⟩⟩
theorem addr_in {W : World} {a : Addr} {v : Value} (h : W.cell? (a.add 0) = some v) : ∃ g o, a = ⟨g, o, none⟩ := by
  obtain ⟨g, o, sp⟩ := a
  have h1 := World.cell?_spot h
  have hs : sp = none := by simpa [Addr.add] using h1
  subst hs
  exact ⟨g, o, rfl⟩
section
variable {H : Type} {enc : TypeId × Value → H} {W : World} {spare : Nat → Bool} {held : Bool}
theorem vec_of {fuel : Nat} {c0 c1 c2 : Value} {x : DataW H × List MemPlace} (h : DataW.trod enc Tryd.prog W 0 spare held fuel 58 [c0, c1, c2] = some x) :
    ∃ a b c : Int, c0 = .int .i64 a ∧ c1 = .int .i64 b ∧ c2 = .int .i64 c ∧ I64 a ∧ I64 b ∧ I64 c := by
  obtain ⟨xs, n, _, _, _, hl, hi⟩ := DataW.trod_array Tryd.underlying58 h
  rw [cellsRb_i64] at hi
  have g : ∀ i, i < 3 → ∃ y, xs[i]? = some y := fun i h => ⟨xs[i]'(by omega), List.getElem?_eq_getElem (by omega)⟩
  obtain ⟨y0, g0⟩ := g 0 (by decide)
  obtain ⟨y1, g1⟩ := g 1 (by decide)
  obtain ⟨y2, g2⟩ := g 2 (by decide)
  obtain ⟨a, e0, _, w0⟩ := DataW.trod_int Tryd.underlying2 ((hi 0 (by decide)).trans g0)
  obtain ⟨b, e1, _, w1⟩ := DataW.trod_int Tryd.underlying2 ((hi 1 (by decide)).trans g1)
  obtain ⟨c, e2, _, w2⟩ := DataW.trod_int Tryd.underlying2 ((hi 2 (by decide)).trans g2)
  exact ⟨a, b, c, by simpa using e0, by simpa using e1, by simpa using e2, bounds_i64 w0, bounds_i64 w1, bounds_i64 w2⟩
set_option maxRecDepth 100000 in
theorem joint_of {fuel : Nat} {cs : List Value} {x : DataW H × List MemPlace} (h : DataW.trod enc Tryd.prog W 0 spare held fuel 60 cs = some x) : ∃ j : JointD, cs = (jointC j).toList ∧ InJ j := by
  obtain ⟨xs, n, _, _, hl, hlen, hf⟩ := DataW.trod_struct (Tryd.underlying60) h
  rw [cellsRb_joint] at hl
  match cs, hl with
  | [c0, c1, c2, c3, c4, c5, c6, c7, c8, c9, c10, c11], _ =>
    have hlen2 : xs.length = 10 := hlen
    have g : ∀ i, i < 10 → ∃ y, xs[i]? = some y := fun i h => ⟨xs[i]'(by omega), List.getElem?_eq_getElem (by omega)⟩
    obtain ⟨y0, g0⟩ := g 0 (by decide)
    obtain ⟨y1, g1⟩ := g 1 (by decide)
    obtain ⟨y2, g2⟩ := g 2 (by decide)
    obtain ⟨y3, g3⟩ := g 3 (by decide)
    obtain ⟨y4, g4⟩ := g 4 (by decide)
    obtain ⟨y5, g5⟩ := g 5 (by decide)
    obtain ⟨y6, g6⟩ := g 6 (by decide)
    obtain ⟨y7, g7⟩ := g 7 (by decide)
    obtain ⟨y8, g8⟩ := g 8 (by decide)
    obtain ⟨y9, g9⟩ := g 9 (by decide)
    obtain ⟨s, e0, _, _⟩ := DataW.trod_string Tryd.underlying9 ((hf 0 _ rfl).trans g0)
    obtain ⟨z1, e1, _, w1⟩ := DataW.trod_int Tryd.underlying3 ((hf 1 _ rfl).trans g1)
    obtain ⟨z2, e2, _, w2⟩ := DataW.trod_int Tryd.underlying3 ((hf 2 _ rfl).trans g2)
    obtain ⟨p, q, r, e3, e4, e5, w3, w4, w5⟩ := vec_of (c0 := c3) (c1 := c4) (c2 := c5) (by have : DataW.trod enc Tryd.prog W 0 spare held n 58 ([c3, c4, c5, c6, c7, c8, c9, c10, c11].take (Tryd.prog.cellsOf 58)) = _ := (hf 3 _ rfl).trans g3; rw [cellsRb_vec] at this; exact this)
    obtain ⟨z6, e6, _, w6⟩ := DataW.trod_int Tryd.underlying2 ((hf 4 _ rfl).trans g4)
    obtain ⟨z7, e7, _, w7⟩ := DataW.trod_int Tryd.underlying2 ((hf 5 _ rfl).trans g5)
    obtain ⟨z8, e8, _, w8⟩ := DataW.trod_int Tryd.underlying2 ((hf 6 _ rfl).trans g6)
    obtain ⟨z9, e9, _, w9⟩ := DataW.trod_int Tryd.underlying2 ((hf 7 _ rfl).trans g7)
    obtain ⟨z10, e10, _, w10⟩ := DataW.trod_int Tryd.underlying2 ((hf 8 _ rfl).trans g8)
    obtain ⟨z11, e11, _, w11⟩ := DataW.trod_int Tryd.underlying2 ((hf 9 _ rfl).trans g9)
    have k0 : c0 = .string s := by simpa [cellsRb_str] using e0
    have k1 : c1 = .int .i64 z1 := by simpa [cellsRb_int] using e1
    have k2 : c2 = .int .i64 z2 := by simpa [cellsRb_int] using e2
    have k6 : c6 = .int .i64 z6 := by simpa [cellsRb_i64] using e6
    have k7 : c7 = .int .i64 z7 := by simpa [cellsRb_i64] using e7
    have k8 : c8 = .int .i64 z8 := by simpa [cellsRb_i64] using e8
    have k9 : c9 = .int .i64 z9 := by simpa [cellsRb_i64] using e9
    have k10 : c10 = .int .i64 z10 := by simpa [cellsRb_i64] using e10
    have k11 : c11 = .int .i64 z11 := by simpa [cellsRb_i64] using e11
    exact ⟨⟨s, z1, z2, p, q, r, z6, z7, z8, z9, z10, z11⟩, by rw [k0, k1, k2, e3, e4, e5, k6, k7, k8, k9, k10, k11]; rfl, bounds_i64 w1, bounds_i64 w2, w3, w4, w5, bounds_i64 w6, bounds_i64 w7, bounds_i64 w8, bounds_i64 w9, bounds_i64 w10, bounds_i64 w11⟩
set_option maxRecDepth 100000 in
theorem mass_of {fuel : Nat} {cs : List Value} {x : DataW H × List MemPlace} (h : DataW.trod enc Tryd.prog W 0 spare held fuel 74 cs = some x) : ∃ m : MassD, cs = (massC m).toList ∧ InM m := by
  obtain ⟨xs, n, _, _, hl, hlen, hf⟩ := DataW.trod_struct (Tryd.underlying74) h
  rw [cellsRb_mass] at hl
  match cs, hl with
  | [c0, c1, c2, c3, c4], _ =>
    have hlen2 : xs.length = 3 := hlen
    have g : ∀ i, i < 3 → ∃ y, xs[i]? = some y := fun i h => ⟨xs[i]'(by omega), List.getElem?_eq_getElem (by omega)⟩
    obtain ⟨y0, g0⟩ := g 0 (by decide)
    obtain ⟨y1, g1⟩ := g 1 (by decide)
    obtain ⟨y2, g2⟩ := g 2 (by decide)
    obtain ⟨z0, e0, _, w0⟩ := DataW.trod_int Tryd.underlying3 ((hf 0 _ rfl).trans g0)
    obtain ⟨z1, e1, _, w1⟩ := DataW.trod_int Tryd.underlying2 ((hf 1 _ rfl).trans g1)
    obtain ⟨p, q, r, e3, e4, e5, w3, w4, w5⟩ := vec_of (c0 := c2) (c1 := c3) (c2 := c4) (by have : DataW.trod enc Tryd.prog W 0 spare held n 58 ([c2, c3, c4].take (Tryd.prog.cellsOf 58)) = _ := (hf 2 _ rfl).trans g2; rw [cellsRb_vec] at this; exact this)
    have k0 : c0 = .int .i64 z0 := by simpa [cellsRb_int] using e0
    have k1 : c1 = .int .i64 z1 := by simpa [cellsRb_i64] using e1
    exact ⟨⟨z0, z1, p, q, r⟩, by rw [k0, k1, e3, e4, e5]; rfl, bounds_i64 w0, bounds_i64 w1, w3, w4, w5⟩
theorem rows_of {α : Type} [Inhabited α] (f : α → Array Value) (Ok : α → Prop) {t e : TypeId} {s : Nat} (ht : Tryd.prog.underlying t = some (.slice e)) (hc : Tryd.prog.cellsOf e = s) (hs : 0 < s) (hfl : ∀ x, (f x).toList.length = s)
    (hel : ∀ (n : Nat) (cs : List Value) (y : DataW H × List MemPlace), DataW.trod enc Tryd.prog W 0 spare held n e cs = some y → ∃ x, cs = (f x).toList ∧ Ok x)
    {fuel : Nat} {cs : List Value} {x : DataW H × List MemPlace} (h : DataW.trod enc Tryd.prog W 0 spare held fuel t cs = some x) :
    ∃ (A : Option Addr) (c : Nat) (l : List α), cs = [.slice A l.length c] ∧ RdO W (.slice A l.length c) l.length s (l.flatMap fun y => (f y).toList) ∧ (∀ k (h : k < l.length), Ok l[k]) ∧ (l = [] ∨ ∃ el sp, x.1 = .slice el sp ∧ el.length = l.length) := by
  rcases open_slice ht h with ⟨hv, rfl⟩ | ⟨a, len, cap, m, n, D, Pl, hv, _, hl, hm, hmm, rfl, hx⟩
  · exact ⟨none, 0, [], hv, ⟨none, 0, rfl, Nat.le_refl _, fun j hj => absurd hj (by simp)⟩, fun k h => absurd h (by simp), Or.inl rfl⟩
  · have hlm : len ≤ m := by rw [hmm]; split <;> omega
    rw [hc] at hx
    have each : ∀ i, i < len → ∃ y : α, (∀ j, j < s → W.cell? (a.add (i * s + j)) = (f y).toList[j]?) ∧ Ok y := by
      intro i hi
      obtain ⟨cs', h1, h2⟩ := hx i (by omega)
      obtain ⟨y, rfl, hok⟩ := hel _ _ _ h2
      obtain ⟨_, _, hcc⟩ := World.cells?_some h1
      exact ⟨y, fun j hj => by rw [← add_add, hcc j hj], hok⟩
    obtain ⟨Y, hY⟩ := choose_lt each
    refine ⟨some a, cap, (List.range len).map Y, by simpa using hv, ⟨some a, cap, rfl, by simpa using hl, fun j hj => ?_⟩, fun k h => ?_, Or.inr ⟨_, _, rfl, by simp⟩⟩
    · have hj2 : j < len * s := by simpa using hj
      have hq : j / s < len := (Nat.div_lt_iff_lt_mul hs).2 hj2
      have hr : j % s < s := Nat.mod_lt _ hs
      have hjj : j = j / s * s + j % s := by rw [Nat.mul_comm]; exact (Nat.div_add_mod j s).symm
      have hc1 := (hY _ hq).1 _ hr
      rw [← hjj] at hc1
      have hfa := flat_at (fun y => (f y).toList) s hfl ((List.range len).map Y) (j / s) (j % s) (by simpa using hq) hr
      rw [← hjj] at hfa
      have hget : ((List.range len).map Y)[j / s]'(by simpa using hq) = Y (j / s) := by simp
      rw [hget] at hfa
      have hsome : ∃ v, (f (Y (j / s))).toList[j % s]? = some v := ⟨_, List.getElem?_eq_getElem (by rw [hfl]; exact hr)⟩
      obtain ⟨v, hv2⟩ := hsome
      rw [hv2] at hc1 hfa
      obtain ⟨g, o, rfl⟩ : ∃ g o, a = ⟨g, o, none⟩ := by
        have hz := (hY 0 (Nat.lt_of_le_of_lt (Nat.zero_le _) hq)).1 0 hs
        rw [Nat.zero_mul] at hz
        have hsm : ∃ v, (f (Y 0)).toList[0]? = some v := ⟨_, List.getElem?_eq_getElem (by rw [hfl]; exact hs)⟩
        obtain ⟨v0, hv0⟩ := hsm
        exact addr_in (hz.trans hv0)
      rw [Go.WideShapes.add_plain] at hc1
      exact ⟨g, o, rfl, World.block_lt_of_cell? W _ hc1, hc1.trans hfa.symm⟩
    · have hk : k < len := by simpa using h
      have hget : ((List.range len).map Y)[k] = Y k := by simp
      rw [hget]
      exact (hY k hk).2
set_option maxRecDepth 100000 in
/-- A robot that came in. -/
theorem rob_of {r : Reach} {b0 : Nat} {v : Value} {d : DataW H} {p : List MemPlace} (hv : Value.okWide Tryd.prog W r b0 25 v) (h : DataW.Trod enc Tryd.prog W 0 spare held 25 v d p)
    (hw : ∀ n ∈ d.weights Tryd.prog 25, n ≤ reachBytes) :
    ∃ (vj vm : Value) (js : List JointD) (ms : List MassD), v = .agg #[vj, vm] ∧ RobD W vj vm js ms := by
  obtain ⟨cs, rfl, hs⟩ : ∃ cs, v = .agg cs ∧ cs.size = Tryd.prog.cellsOf 25 := by
    simp only [Value.okWide, Tryd.underlying25] at hv
    obtain ⟨cs, h1, h2, _⟩ := hv
    exact ⟨cs, h1, h2⟩
  rw [cellsRb_rob] at hs
  obtain ⟨c0, c1, rfl⟩ : ∃ c0 c1, cs = #[c0, c1] := by
    obtain ⟨l⟩ := cs
    match l, hs with
    | [c0, c1], _ => exact ⟨c0, c1, rfl⟩
  obtain ⟨fuel, hf⟩ := h
  replace hf : DataW.trod enc Tryd.prog W 0 spare held fuel 25 [c0, c1] = some (d, p) := by simpa [Value.cells] using hf
  obtain ⟨y0, y1, n, he, _, h0, h1⟩ := trod_struct2 Tryd.underlying25 hf
  obtain ⟨rfl, -⟩ := Prod.mk.injEq .. ▸ he
  obtain ⟨Aj, cj, js, e0, r0, i0, s0⟩ := rows_of jointC InJ Tryd.underlying22 cellsRb_joint (by decide) (fun _ => rfl) (fun _ _ _ h => joint_of h) h0
  obtain ⟨Am, cm, ms, e1, r1, i1, s1⟩ := rows_of massC InM Tryd.underlying23 cellsRb_mass (by decide) (fun _ => rfl) (fun _ _ _ h => mass_of h) h1
  have k0 : c0 = .slice Aj js.length cj := by simpa [cellsRb_js] using e0
  have k1 : c1 = .slice Am ms.length cm := by simpa [cellsRb_ms] using e1
  subst k0 k1
  have hw2 : ∀ n, (n ∈ y0.1.weights Tryd.prog 22 ∨ n ∈ y1.1.weights Tryd.prog 23) → n ≤ reachBytes := fun n hn => hw n (by
    simp only [DataW.weights, Tryd.underlying25, List.map_cons, List.map_nil, DataW.weightsEach, List.mem_append, List.not_mem_nil, or_false]
    exact hn)
  have hr : reachBytes = 140737488351232 := rfl
  refine ⟨_, _, js, ms, rfl, r0, r1, ?_, ?_, i0, i1⟩
  · rcases s0 with rfl | ⟨el, sp, he, hl⟩
    · simp
    · have := hw2 ((el.length + sp.length) * Tryd.prog.bytesOf 60) (Or.inl (by rw [he]; simp [DataW.weights, Tryd.underlying22]))
      have hb := bytesRb_joint
      have h2 : (el.length + sp.length) * 16 ≤ (el.length + sp.length) * Tryd.prog.bytesOf 60 := Nat.mul_le_mul (Nat.le_refl _) hb
      omega
  · rcases s1 with rfl | ⟨el, sp, he, hl⟩
    · simp
    · have := hw2 ((el.length + sp.length) * Tryd.prog.bytesOf 74) (Or.inr (by rw [he]; simp [DataW.weights, Tryd.underlying23]))
      have hb := bytesRb_mass
      have h2 : (el.length + sp.length) * 16 ≤ (el.length + sp.length) * Tryd.prog.bytesOf 74 := Nat.mul_le_mul (Nat.le_refl _) hb
      omega
end
end Go.Proofs.YtpaiapcnoifpmaaDoor
