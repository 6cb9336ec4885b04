/- Proved: the statements' helpers splits, numbers and awake return true; the statements TokenSplits, TokenNumbers and TokenNames return true; a slice of bytes that came in, as the walks ask it. Conditions: as each theorem states. -/
import Derived.Test.YtnahlpeckfcciaaDoorTkD
import Derived.Test.YtnahlpeckfcciaaDoorTk9
import Derived.ChangeSlices
import Derived.OpenShut
namespace Go.Proofs.YtnahlpeckfcciaaDoor
open Go.RowKit

theorem ErrAt.below {W V : World} {b : Nat} {e l : Int} {B : Nat} (h : ErrAt W b e l) (hb : Below B W V) (hB : b < B) : ErrAt V b e l := (hb.block b hB).trans h
theorem ErrAt.alloc {W : World} {b : Nat} {e l : Int} (h : ErrAt W b e l) (o : Obj) : ErrAt (W.alloc o) b e l := (Below.heap_alloc _ _ _ h.lt).trans h
theorem awake_split : splitS ⟨#[97, 32, 98, 35, 99]⟩ = .ok [⟨0, 1, 1, 1⟩, ⟨2, 3, 1, 3⟩] := by rfl
theorem awake_words : ([⟨0, 1, 1, 1⟩, ⟨2, 3, 1, 3⟩] : List Wd).map (wdT ⟨#[97, 32, 98, 35, 99]⟩) = [⟨⟨#[97]⟩, 1, 1⟩, ⟨⟨#[98]⟩, 1, 3⟩] := by rfl
theorem awake_num : numS (bts ⟨#[45, 49, 46, 53]⟩) = some (-98304) := by kernel_rfl
theorem awake_lit (W : World) : RdW (W.alloc (.cells #[.string ⟨#[97]⟩, .int .i64 1, .int .i64 1, .string ⟨#[98]⟩, .int .i64 1, .int .i64 3] 99)) (.slice (some ⟨W.heap.size, 0, none⟩) 2 2) [⟨⟨#[97]⟩, 1, 1⟩, ⟨⟨#[98]⟩, 1, 3⟩] := by
  refine ⟨_, _, rfl, by decide, fun k hk => ?_⟩
  match k, hk with
  | 0, _ => exact ⟨_, rfl, by simp, by simp, by simp, by simp⟩
  | 1, _ => exact ⟨_, rfl, by simp, by simp, by simp, by simp⟩
end Go.Proofs.YtnahlpeckfcciaaDoor
namespace Go.Proofs.YtnahlpeckfcciaaDoor
open Go.RowKit

theorem cat_size {a b : ByteArray} {k : Nat} (ha : a.size ≤ k) (hb : b.size ≤ 1000) (hk : k ≤ 1000) : (a ++ b).size ≤ maxLen := by
  rw [ByteArray.size_append]; unfold maxLen; omega
/-- A slice of n bytes lies in memory that was there. -/
def BytesAt (W : World) (a : Option Addr) (n : Nat) : Prop := n ≤ 9223372036854775807 ∧
  ∀ t, t < n → ∃ (lb lo z : Nat), a = some ⟨lb, lo, none⟩ ∧ lb < W.heap.size ∧ W.cell? ⟨lb, lo + t, none⟩ = some (.int .u8 z) ∧ z < 256
theorem BytesAt.below {W V : World} {a : Option Addr} {n : Nat} (h : BytesAt W a n) (hb : Below W.heap.size W V) : BytesAt V a n :=
  ⟨h.1, fun t ht => by
    obtain ⟨lb, lo, z, e, hl, hz, z1⟩ := h.2 t ht
    have := hb.size
    exact ⟨lb, lo, z, e, by omega, by rw [hb.cell (p := ⟨lb, lo + t, none⟩) hl]; exact hz, z1⟩⟩
end Go.Proofs.YtnahlpeckfcciaaDoor
namespace Go.Proofs.YtnahlpeckfcciaaDoor
open Go.RowKit Go.ChangeShapes Go.WideShapes

theorem bounds_byte {z : Int} (h : (Lit.int .u8 z).wf = true) : 0 ≤ z ∧ z ≤ 255 := bounds_u8 h
theorem bytes_of {H : Type} {enc : TypeId × Value → H} {P : Program} {t e : TypeId} {W : World} {a : Option Addr} {n c : Nat} {d : DataW H} {p : List MemPlace} (ht : P.underlying t = some (.slice e)) (he : P.underlying e = some (.int .u8)) (hc : P.cellsOf e = 1)
    (h : DataW.Trod enc P W 0 (fun _ => true) true t (.slice a n c) d p) : BytesAt W a n := by
  obtain ⟨fuel, hf⟩ := h
  rcases open_ints ht he hc hf with ⟨hcs, hx⟩ | ⟨a', len, cap, zs, hcs, _, hl, hm, hz, hx, hcell, hwz⟩
  · simp [Value.cells] at hcs
    obtain ⟨rfl, rfl, rfl⟩ := hcs
    exact ⟨by decide, fun t h => by omega⟩
  · simp [Value.cells] at hcs
    obtain ⟨rfl, rfl, rfl⟩ := hcs
    simp only [if_true] at hz
    unfold maxLen at hm
    refine ⟨by omega, fun t h => ?_⟩
    obtain ⟨b, off, rfl, hc2⟩ := ints_at hcell (by omega)
    have h1 := hc2 t (by omega)
    have hw := hwz (zs.getD t 0) (by rw [List.getD_eq_getElem?_getD, List.getElem?_eq_getElem (by omega)]; exact List.getElem_mem _)
    obtain ⟨w1, w2⟩ := bounds_byte hw
    exact ⟨b, off, (zs.getD t 0).toNat, rfl, World.block_lt_of_cell? W _ h1, by rw [h1]; congr 2; omega, by omega⟩
end Go.Proofs.YtnahlpeckfcciaaDoor
