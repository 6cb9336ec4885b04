/- Proved: a slice of bytes that came in, as the walks ask it. Conditions: as each theorem states. -/
import Derived.Test.YtnahlpeckfcciaaDoorTk11
import Derived.ChangeSlices
import Derived.OpenShut
namespace Go.Proofs.YtnahlpeckfcciaaDoor
open Go.RowKit Go.ChangeShapes Go.WideShapes

theorem bounds_byte {z : Int} (h : (Lit.int .u8 z).wf = true) : 0 ≤ z ∧ z ≤ 255 := bounds_u8 h
theorem bytes_of {H : Type} {enc : TypeId × Value → H} {P : Program} {t e : TypeId} {W : World} {a : Option Addr} {n c : Nat} {d : DataW H} {p : List MemPlace} (ht : P.underlying t = some (.slice e)) (he : P.underlying e = some (.int .u8)) (hc : P.cellsOf e = 1)
    (h : DataW.Trod enc P W 0 (fun _ => true) true t (.slice a n c) d p) : BytesAt W a n := by
  obtain ⟨fuel, hf⟩ := h
  rcases open_ints ht he hc hf with ⟨hcs, hx⟩ | ⟨a', len, cap, zs, hcs, _, hl, hm, hz, hx, hcell, hwz⟩
  · simp [Value.cells] at hcs
    obtain ⟨rfl, rfl, rfl⟩ := hcs
    exact ⟨by decide, fun t h => by omega⟩
  · simp [Value.cells] at hcs
    obtain ⟨rfl, rfl, rfl⟩ := hcs
    simp only [if_true] at hz
    unfold maxLen at hm
    refine ⟨by omega, fun t h => ?_⟩
    obtain ⟨b, off, rfl, hc2⟩ := ints_at hcell (by omega)
    have h1 := hc2 t (by omega)
    have hw := hwz (zs.getD t 0) (by rw [List.getD_eq_getElem?_getD, List.getElem?_eq_getElem (by omega)]; exact List.getElem_mem _)
    obtain ⟨w1, w2⟩ := bounds_byte hw
    exact ⟨b, off, (zs.getD t 0).toNat, rfl, World.block_lt_of_cell? W _ h1, by rw [h1]; congr 2; omega, by omega⟩
end Go.Proofs.YtnahlpeckfcciaaDoor
