/- Proved: a slice of integers that came in, as the walks ask it. Conditions: as each theorem states. -/
import Derived.Test.YtnahlpeckfcciaaDoorSrc
import Derived.ChangeSlices
import Derived.OpenShut
namespace Go.Proofs.YtnahlpeckfcciaaDoor
open Go.RowKit Go.ChangeShapes Go.WideShapes

/-- A slice of n numbers lies in memory that was there. -/
def ListAt (W : World) (a : Option Addr) (n : Nat) : Prop := n ≤ 9223372036854775807 ∧
  ∀ t, t < n → ∃ lb lo z, a = some ⟨lb, lo, none⟩ ∧ lb < W.heap.size ∧ W.cell? ⟨lb, lo + t, none⟩ = some (.int .i64 z) ∧ -9223372036854775808 ≤ z ∧ z ≤ 9223372036854775807
theorem list_of {H : Type} {enc : TypeId × Value → H} {P : Program} {t e : TypeId} {W : World} {a : Option Addr} {n c : Nat} {d : DataW H} {p : List MemPlace} (ht : P.underlying t = some (.slice e)) (he : P.underlying e = some (.int .i64)) (hc : P.cellsOf e = 1)
    (h : DataW.Trod enc P W 0 (fun _ => true) true t (.slice a n c) d p) : ListAt W a n := by
  obtain ⟨fuel, hf⟩ := h
  rcases open_ints ht he hc hf with ⟨hcs, hx⟩ | ⟨a', len, cap, zs, hcs, _, hl, hm, hz, hx, hcell, hwz⟩
  · simp [Value.cells] at hcs
    obtain ⟨rfl, rfl, rfl⟩ := hcs
    exact ⟨by decide, fun t h => by omega⟩
  · simp [Value.cells] at hcs
    obtain ⟨rfl, rfl, rfl⟩ := hcs
    simp only [if_true] at hz
    unfold maxLen at hm
    refine ⟨by omega, fun t h => ?_⟩
    obtain ⟨b, off, rfl, hc2⟩ := ints_at hcell (by omega)
    have h1 := hc2 t (by omega)
    have hw := hwz (zs.getD t 0) (by rw [List.getD_eq_getElem?_getD, List.getElem?_eq_getElem (by omega)]; exact List.getElem_mem _)
    obtain ⟨w1, w2⟩ := bounds_i64 hw
    exact ⟨b, off, zs.getD t 0, rfl, World.block_lt_of_cell? W _ h1, h1, w1, w2⟩
/-- A source over such a slice. -/
theorem src_of {w w' : World} {a : Option Addr} {n c : Nat} (h : ListAt w a n) (hb : Below w.heap.size w w') (hs : SrcAt w' w.heap.size (.slice a n c) 0) : Src w.heap.size w' w.heap.size :=
  ⟨a, n, c, 0, hs, Nat.zero_le _, h.1, Nat.le_refl _, fun t ht => by
    obtain ⟨lb, lo, z, e, hl, hz, z1, z2⟩ := h.2 t ht
    exact ⟨lb, lo, z, e, hl, by rw [hb.cell (p := ⟨lb, lo + t, none⟩) hl]; exact hz, z1, z2⟩⟩
end Go.Proofs.YtnahlpeckfcciaaDoor
