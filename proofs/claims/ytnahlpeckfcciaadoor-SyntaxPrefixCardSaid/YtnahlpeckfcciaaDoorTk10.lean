/- Proved: the statements' helpers splits, numbers and awake return true. Conditions: as each theorem states. -/
import Derived.Test.YtnahlpeckfcciaaDoorTkD
import Derived.Test.YtnahlpeckfcciaaDoorTk9
namespace Go.Proofs.YtnahlpeckfcciaaDoor
open Go.RowKit

theorem ErrAt.below {W V : World} {b : Nat} {e l : Int} {B : Nat} (h : ErrAt W b e l) (hb : Below B W V) (hB : b < B) : ErrAt V b e l := (hb.block b hB).trans h
theorem ErrAt.alloc {W : World} {b : Nat} {e l : Int} (h : ErrAt W b e l) (o : Obj) : ErrAt (W.alloc o) b e l := (Below.heap_alloc _ _ _ h.lt).trans h
theorem awake_split : splitS ⟨#[97, 32, 98, 35, 99]⟩ = .ok [⟨0, 1, 1, 1⟩, ⟨2, 3, 1, 3⟩] := by rfl
theorem awake_words : ([⟨0, 1, 1, 1⟩, ⟨2, 3, 1, 3⟩] : List Wd).map (wdT ⟨#[97, 32, 98, 35, 99]⟩) = [⟨⟨#[97]⟩, 1, 1⟩, ⟨⟨#[98]⟩, 1, 3⟩] := by rfl
theorem awake_num : numS (bts ⟨#[45, 49, 46, 53]⟩) = some (-98304) := by kernel_rfl
theorem awake_lit (W : World) : RdW (W.alloc (.cells #[.string ⟨#[97]⟩, .int .i64 1, .int .i64 1, .string ⟨#[98]⟩, .int .i64 1, .int .i64 3] 99)) (.slice (some ⟨W.heap.size, 0, none⟩) 2 2) [⟨⟨#[97]⟩, 1, 1⟩, ⟨⟨#[98]⟩, 1, 3⟩] := by
  refine ⟨_, _, rfl, by decide, fun k hk => ?_⟩
  match k, hk with
  | 0, _ => exact ⟨_, rfl, by simp, by simp, by simp, by simp⟩
  | 1, _ => exact ⟨_, rfl, by simp, by simp, by simp, by simp⟩
end Go.Proofs.YtnahlpeckfcciaaDoor
