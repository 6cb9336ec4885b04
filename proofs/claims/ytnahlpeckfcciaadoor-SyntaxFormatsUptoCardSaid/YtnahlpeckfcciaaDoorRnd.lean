/- Proved: the makers' Round returns the remainder. Conditions: as each theorem states. -/
import Derived.Test.YtnahlpeckfcciaaDoorChecked
import Derived.WalkKit
import Derived.Lib.Hide
import Derived.IntWalk
namespace Go.Proofs.YtnahlpeckfcciaaDoor
open Go.RowKit

theorem ret_rnd {k : IntKind} {a b : Int} (h : a = b) : Ending.returned (.int k a) = .returned (.int k b) := by rw [h]
theorem Round_any (n k : Int) (w : World) (hk : 0 < k) (hk2 : k ≤ 9223372036854775807) (n1 : -9223372036854775808 ≤ n) (n2 : n ≤ 9223372036854775807) :
    Calls Tryd.prog 12 #[ .int .i64 n, .int .i64 k ] w fun e w' => e = .returned (.int .i64 (n % k)) ∧ w = w' := by
  have hm := Int.emod_nonneg n (show k ≠ 0 by omega)
  have hl := Int.emod_lt_of_pos n hk
  by_cases h0 : 0 ≤ n
  · go_enter Tryd.func12, Tryd.ntmps12
    go_wp2
    go_ret
    exact ⟨rfl, rfl⟩
  · by_cases ht : n.tmod k < 0
    · have E := Lib.hid (show n.tmod k + k = n % k by
        rw [Int.tmod_eq_emod] at ht ⊢
        split at ht
        · omega
        · rw [if_neg (by assumption)]; omega)
      have t1 : 0 ≤ n.tmod k + k := by rw [E.out]; exact hm
      have t2 : n.tmod k + k < k := by rw [E.out]; exact hl
      clear hm hl
      go_enter Tryd.func12, Tryd.ntmps12
      go_wp2
      go_ret
      exact ⟨ret_rnd E.out, rfl⟩
    · have E := Lib.hid (show n.tmod k = n % k by
        rw [Int.tmod_eq_emod] at ht ⊢
        split at ht
        · rw [if_pos (by assumption)]; omega
        · omega)
      clear hm hl
      go_enter Tryd.func12, Tryd.ntmps12
      go_wp2
      go_ret
      exact ⟨ret_rnd E.out, rfl⟩
end Go.Proofs.YtnahlpeckfcciaaDoor
