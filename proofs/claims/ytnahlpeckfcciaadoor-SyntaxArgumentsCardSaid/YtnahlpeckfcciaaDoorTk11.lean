/- Proved: the statements TokenSplits, TokenNumbers and TokenNames return true. Conditions: as each theorem states. -/
import Derived.Test.YtnahlpeckfcciaaDoorTk10
namespace Go.Proofs.YtnahlpeckfcciaaDoor
open Go.RowKit

theorem cat_size {a b : ByteArray} {k : Nat} (ha : a.size ≤ k) (hb : b.size ≤ 1000) (hk : k ≤ 1000) : (a ++ b).size ≤ maxLen := by
  rw [ByteArray.size_append]; unfold maxLen; omega
/-- A slice of n bytes lies in memory that was there. -/
def BytesAt (W : World) (a : Option Addr) (n : Nat) : Prop := n ≤ 9223372036854775807 ∧
  ∀ t, t < n → ∃ (lb lo z : Nat), a = some ⟨lb, lo, none⟩ ∧ lb < W.heap.size ∧ W.cell? ⟨lb, lo + t, none⟩ = some (.int .u8 z) ∧ z < 256
theorem BytesAt.below {W V : World} {a : Option Addr} {n : Nat} (h : BytesAt W a n) (hb : Below W.heap.size W V) : BytesAt V a n :=
  ⟨h.1, fun t ht => by
    obtain ⟨lb, lo, z, e, hl, hz, z1⟩ := h.2 t ht
    have := hb.size
    exact ⟨lb, lo, z, e, by omega, by rw [hb.cell (p := ⟨lb, lo + t, none⟩) hl]; exact hz, z1⟩⟩
end Go.Proofs.YtnahlpeckfcciaaDoor
