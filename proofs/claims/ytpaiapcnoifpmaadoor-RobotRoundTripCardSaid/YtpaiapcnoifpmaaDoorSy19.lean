/- Proved: slices that were written out are rows of the call's own; the elements of a list of texts, as an append asks them; GoodSt of made statements. Conditions: as each theorem states. -/
import Derived.Test.YtpaiapcnoifpmaaDoorSy12
import Derived.Test.YtpaiapcnoifpmaaDoorSy14
namespace Go.Proofs.YtpaiapcnoifpmaaDoor
open Go.RowKit

/-- A slice that was written out. -/
theorem own_lit (W : World) (B : Nat) (T : TypeId) (cs : Array Value) (size n : Nat) (h : cs.size = n * size) (hB : B ≤ W.heap.size) (hn : n ≤ maxLen) : (W.alloc (.cells cs T)).ownsRow B T size (.slice (some ⟨W.heap.size, 0, none⟩) n n) n cs.toList := by
  refine ⟨by rw [Array.length_toList, h], .inr ⟨W.heap.size, n, cs, rfl, hB, heap_alloc_new _ _, Nat.le_refl _, hn, h, ?_⟩⟩
  rw [← h, ← Array.length_toList, List.take_length]
/-- What an append of a list of texts asks. -/
theorem rdT_news {W : World} {ad : Addr} {m c : Nat} {ys : List ByteArray} (h : RdT W (.slice (some ad) m c) ys) : ∀ j u, (ys.map Value.string)[j]? = some u → W.cell? (ad.add j) = some u := by
  intro j u hj
  obtain ⟨A, c', hv, _, hk⟩ := h
  injection hv with hA _ _
  rw [List.getElem?_map, Option.map_eq_some_iff] at hj
  obtain ⟨y, hy, rfl⟩ := hj
  obtain ⟨hjl, rfl⟩ := List.getElem?_eq_some_iff.1 hy
  obtain ⟨g, o, hA2, _, hc⟩ := hk j hjl
  rw [← hA] at hA2
  injection hA2 with hA2
  subst hA2
  rw [show (Addr.add ⟨g, o, none⟩ j) = ⟨g, o + j, none⟩ by simp [Addr.add]]
  exact hc
theorem ones_str (ys : List ByteArray) : ∀ u ∈ ys.map Value.string, u.oneCell' = true := by
  intro u hu
  obtain ⟨y, _, rfl⟩ := List.mem_map.1 hu
  rfl
/-- The statements that are written for a made scene. -/
theorem good_joint (g : St) (hw : bts g.word = [106, 111, 105, 110, 116]) (ha : g.args.length = 9) : GoodSt g ∧ WordT g.word := by
  unfold GoodSt WordT
  have hs : g.word.size = 5 := by rw [← bts_len, hw]; rfl
  rw [hw, ha, hs]
  decide
theorem good_limit (g : St) (hw : bts g.word = [108, 105, 109, 105, 116]) (ha : g.args.length = 4) : GoodSt g ∧ WordT g.word := by
  unfold GoodSt WordT
  have hs : g.word.size = 5 := by rw [← bts_len, hw]; rfl
  rw [hw, ha, hs]
  decide
theorem good_mass (g : St) (hw : bts g.word = [109, 97, 115, 115]) (ha : g.args.length = 5) : GoodSt g ∧ WordT g.word := by
  unfold GoodSt WordT
  have hs : g.word.size = 4 := by rw [← bts_len, hw]; rfl
  rw [hw, ha, hs]
  decide
theorem good_skip (g : St) (hw : bts g.word = [115, 107, 105, 112]) (ha : g.args.length = 2) : GoodSt g ∧ WordT g.word := by
  unfold GoodSt WordT
  have hs : g.word.size = 4 := by rw [← bts_len, hw]; rfl
  rw [hw, ha, hs]
  decide
theorem good_shape (g : St) (hw : bts g.word = [115, 104, 97, 112, 101]) (k : Nat) (h1 : 1 ≤ k) (h4 : k ≤ 4) (ha : g.args.length = 2 + 3 * k) : GoodSt g ∧ WordT g.word := by
  unfold GoodSt WordT
  have hs : g.word.size = 5 := by rw [← bts_len, hw]; rfl
  rw [hw, ha, hs]
  rcases (show k = 1 ∨ k = 2 ∨ k = 3 ∨ k = 4 by omega) with rfl | rfl | rfl | rfl
  all_goals decide
end Go.Proofs.YtpaiapcnoifpmaaDoor
