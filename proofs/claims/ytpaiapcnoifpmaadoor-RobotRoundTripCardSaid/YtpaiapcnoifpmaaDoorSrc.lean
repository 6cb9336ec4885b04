/- Proved: the makers' Round returns the remainder. Conditions: as each theorem states. · Proved: the makers' source of numbers: what it returns, and what it turns. Conditions: as each theorem states. · Proved: a slice of integers that came in, as the walks ask it. Conditions: as each theorem states. -/
import Derived.Test.YtpaiapcnoifpmaaDoorChecked
import Derived.WalkKit
import Derived.Lib.Hide
import Derived.IntWalk
import Derived.Deep.WholeRow
import Derived.OneCell
import Derived.Deep.Heap
import Derived.Deep.RegionHeld3
import Derived.ChangeSlices
import Derived.OpenShut
namespace Go.Proofs.YtpaiapcnoifpmaaDoor
open Go.RowKit

theorem ret_rnd {k : IntKind} {a b : Int} (h : a = b) : Ending.returned (.int k a) = .returned (.int k b) := by rw [h]
theorem Round_any (n k : Int) (w : World) (hk : 0 < k) (hk2 : k ≤ 9223372036854775807) (n1 : -9223372036854775808 ≤ n) (n2 : n ≤ 9223372036854775807) :
    Calls Tryd.prog 16 #[ .int .i64 n, .int .i64 k ] w fun e w' => e = .returned (.int .i64 (n % k)) ∧ w = w' := by
  have hm := Int.emod_nonneg n (show k ≠ 0 by omega)
  have hl := Int.emod_lt_of_pos n hk
  by_cases h0 : 0 ≤ n
  · go_enter Tryd.func16, Tryd.ntmps16
    go_wp2
    go_ret
    exact ⟨rfl, rfl⟩
  · by_cases ht : n.tmod k < 0
    · have E := Lib.hid (show n.tmod k + k = n % k by
        rw [Int.tmod_eq_emod] at ht ⊢
        split at ht
        · omega
        · rw [if_neg (by assumption)]; omega)
      have t1 : 0 ≤ n.tmod k + k := by rw [E.out]; exact hm
      have t2 : n.tmod k + k < k := by rw [E.out]; exact hl
      clear hm hl
      go_enter Tryd.func16, Tryd.ntmps16
      go_wp2
      go_ret
      exact ⟨ret_rnd E.out, rfl⟩
    · have E := Lib.hid (show n.tmod k = n % k by
        rw [Int.tmod_eq_emod] at ht ⊢
        split at ht
        · rw [if_pos (by assumption)]; omega
        · omega)
      clear hm hl
      go_enter Tryd.func16, Tryd.ntmps16
      go_wp2
      go_ret
      exact ⟨ret_rnd E.out, rfl⟩
end Go.Proofs.YtpaiapcnoifpmaaDoor
namespace Go.Proofs.YtpaiapcnoifpmaaDoor
open Go.RowKit

/-- Block b is a source: a slice and the place of the next number. -/
def SrcAt (W : World) (b : Nat) (sl : Value) (j : Int) : Prop := W.heap[b]? = some (.cells #[sl, .int .i64 j] 107 (0, 0))
/-- Nothing that was there has turned, but for block b. -/
structure But (b : Nat) (w w' : World) : Prop where
  os : w'.os = w.os
  tape : w'.tape = w.tape
  output : w'.output = w.output
  size : w.heap.size ≤ w'.heap.size
  block : ∀ k, k < w.heap.size → k ≠ b → w'.heap[k]? = w.heap[k]?
theorem SrcAt.c0 {W : World} {b : Nat} {sl : Value} {j : Int} (h : SrcAt W b sl j) : W.cell? ⟨b, 0, none⟩ = some sl := by rw [cell_of_row W b 0 _ _ _ h]; rfl
theorem SrcAt.c1 {W : World} {b : Nat} {sl : Value} {j : Int} (h : SrcAt W b sl j) : W.cell? ⟨b, 1, none⟩ = some (.int .i64 j) := by rw [cell_of_row W b 1 _ _ _ h]; rfl
theorem SrcAt.f1 {W : World} {b : Nat} {sl : Value} {j : Int} (h : SrcAt W b sl j) : W.frozen? ⟨b, 1, none⟩ = false := frozen_of_row W b 1 _ _ h
theorem SrcAt.set {W : World} {b : Nat} {sl : Value} {j : Int} (h : SrcAt W b sl j) (i : Int) : SrcAt (W.setCell ⟨b, 1, none⟩ (.int .i64 i)) b sl i := heap_setCell_same W b 1 _ _ (.int .i64 i) h
theorem SrcAt.drew {W : World} {b : Nat} {sl : Value} {j : Int} (h : SrcAt W b sl j) : SrcAt W.drew b sl j := h
set_option linter.unusedSimpArgs false in
set_option linter.unusedVariables false in
set_option maxRecDepth 100000 in
set_option maxHeartbeats 12800000 in
theorem Next_none (b n cap : Nat) (ao : Option Addr) (j k : Int) (w : World) (h : SrcAt w b (.slice ao n cap) j) (hj : (n : Int) ≤ j) :
    Calls Tryd.prog 42 #[ .pointer (some ⟨b, 0, none⟩), .int .i64 k ] w fun e w' => e = .returned (.int .i64 0) ∧ w' = w.drew := by
  have c0 := h.c0
  have c1 := h.c1
  clear h
  go_enter Tryd.func42, Tryd.ntmps42
  go_wp2_with fail
  refine wp_region_held_drew (S := (fun w3 => w3.cell? ⟨b, 0, none⟩ = some (.slice ao n cap) ∧ w3.cell? ⟨b, 1, none⟩ = some (.int .i64 j))) (by kernel_rfl) ?_ (fun hHeld => ?_)
  focus (first | assumption | exact ⟨by go_simp, by go_simp⟩)
  refine wpAnyH_take (i := 0) (v := ?_) rfl (by kernel_rfl) (by kernel_rfl) (by kernel_rfl) (fun _ _ _ h => h) (Or.inl ⟨by rfl, ?_⟩) (by assumption) ?_; rotate_left; (focus (intro w hSw; (try dsimp only at hSw); go_simp; try with_reducible rfl)); (try simp only [Act.put, List.getElem_toArray, List.getElem_cons_succ, List.getElem_cons_zero, List.setIfInBounds_toArray, List.set_cons_zero, List.set_cons_succ])
  refine wpAnyH_take (i := 1) (v := ?_) rfl (by kernel_rfl) (by kernel_rfl) (by kernel_rfl) (fun _ _ _ h => h) (Or.inl ⟨by rfl, ?_⟩) (by assumption) ?_; rotate_left; (focus (intro w hSw; (try dsimp only at hSw); go_simp; try with_reducible rfl)); (try simp only [Act.put, List.getElem_toArray, List.getElem_cons_succ, List.getElem_cons_zero, List.setIfInBounds_toArray, List.set_cons_zero, List.set_cons_succ])
  refine wpAnyH_take (i := 2) (v := ?_) rfl (by kernel_rfl) (by kernel_rfl) (by kernel_rfl) (fun _ _ _ h => h) (Or.inl ⟨by rfl, ?_⟩) (by assumption) ?_; rotate_left; (focus (intro w hSw; (try dsimp only at hSw); go_simp; try with_reducible rfl)); (try simp only [Act.put, List.getElem_toArray, List.getElem_cons_succ, List.getElem_cons_zero, List.setIfInBounds_toArray, List.set_cons_zero, List.set_cons_succ])
  refine wpAnyH_take (i := 3) (v := ?_) rfl (by kernel_rfl) (by kernel_rfl) (by kernel_rfl) (fun _ _ _ h => h) (Or.inl ⟨by rfl, ?_⟩) (by assumption) ?_; rotate_left; (focus (intro w hSw; (try dsimp only at hSw); go_simp; try with_reducible rfl)); (try simp only [Act.put, List.getElem_toArray, List.getElem_cons_succ, List.getElem_cons_zero, List.setIfInBounds_toArray, List.set_cons_zero, List.set_cons_succ])
  refine wpAnyH_take (i := 4) (v := ?_) rfl (by kernel_rfl) (by kernel_rfl) (by kernel_rfl) (fun _ _ _ h => h) (Or.inl ⟨by rfl, ?_⟩) (by assumption) ?_; rotate_left; (focus (intro w hSw; (try dsimp only at hSw); go_simp; try with_reducible rfl)); (try simp only [Act.put, List.getElem_toArray, List.getElem_cons_succ, List.getElem_cons_zero, List.setIfInBounds_toArray, List.set_cons_zero, List.set_cons_succ])
  refine wpAnyH_take (i := 5) (v := ?_) rfl (by kernel_rfl) (by kernel_rfl) (by kernel_rfl) (fun _ _ _ h => h) (Or.inl ⟨by rfl, ?_⟩) (by assumption) ?_; rotate_left; (focus (intro w hSw; (try dsimp only at hSw); go_simp; try with_reducible rfl)); (try simp only [Act.put, List.getElem_toArray, List.getElem_cons_succ, List.getElem_cons_zero, List.setIfInBounds_toArray, List.set_cons_zero, List.set_cons_succ])
  refine wpAnyH_take (i := 6) (v := ?_) rfl (by kernel_rfl) (by kernel_rfl) (by kernel_rfl) (fun _ _ _ h => h) (Or.inl ⟨by rfl, ?_⟩) (by assumption) ?_; rotate_left; (focus (intro w hSw; (try dsimp only at hSw); go_simp; try with_reducible rfl)); (try simp only [Act.put, List.getElem_toArray, List.getElem_cons_succ, List.getElem_cons_zero, List.setIfInBounds_toArray, List.set_cons_zero, List.set_cons_succ])
  refine wpAnyH_take (i := 7) (v := ?_) rfl (by kernel_rfl) (by kernel_rfl) (by kernel_rfl) (fun _ _ _ h => h) (Or.inl ⟨by rfl, ?_⟩) (by assumption) ?_; rotate_left; (focus (intro w hSw; (try dsimp only at hSw); go_simp; try with_reducible rfl)); (try simp only [Act.put, List.getElem_toArray, List.getElem_cons_succ, List.getElem_cons_zero, List.setIfInBounds_toArray, List.set_cons_zero, List.set_cons_succ])
  refine wpAnyH_take (i := 8) (v := ?_) rfl (by kernel_rfl) (by kernel_rfl) (by kernel_rfl) (fun _ _ _ h => h) (Or.inl ⟨by rfl, ?_⟩) (by assumption) ?_; rotate_left; (focus (intro w hSw; (try dsimp only at hSw); go_simp; try with_reducible rfl)); (try simp only [Act.put, List.getElem_toArray, List.getElem_cons_succ, List.getElem_cons_zero, List.setIfInBounds_toArray, List.set_cons_zero, List.set_cons_succ])
  refine wpAnyH_take (i := 9) (v := ?_) rfl (by kernel_rfl) (by kernel_rfl) (by kernel_rfl) (fun _ _ _ h => h) (Or.inl ⟨by rfl, ?_⟩) (by assumption) ?_; rotate_left; (focus (intro w hSw; (try dsimp only at hSw); go_simp; try with_reducible rfl)); (try simp only [Act.put, List.getElem_toArray, List.getElem_cons_succ, List.getElem_cons_zero, List.setIfInBounds_toArray, List.set_cons_zero, List.set_cons_succ])
  refine wpAnyH_done (by kernel_rfl) ?_ _
  go_wp2_with fail
  go_ret
  exact ⟨rfl, rfl⟩
set_option linter.unusedSimpArgs false in
set_option linter.unusedVariables false in
set_option maxRecDepth 100000 in
set_option maxHeartbeats 12800000 in
theorem Next_some (b lb lo n cap j : Nat) (k z : Int) (w : World) (h : SrcAt w b (.slice (some ⟨lb, lo, none⟩) n cap) j) (hj : j < n) (hn : n ≤ 9223372036854775807) (hz : w.cell? ⟨lb, lo + j, none⟩ = some (.int .i64 z)) (hb : lb ≠ b)
    (z1 : -9223372036854775808 ≤ z) (z2 : z ≤ 9223372036854775807) (k1 : 0 < k) (k2 : k ≤ 9223372036854775807) :
    Calls Tryd.prog 42 #[ .pointer (some ⟨b, 0, none⟩), .int .i64 k ] w fun e w' => e = .returned (.int .i64 (Int.emod z k)) ∧ w' = (w.setCell ⟨b, 1, none⟩ (.int .i64 (j + 1 : Nat))).drew.drew := by
  have c0 := h.c0
  have c1 := h.c1
  have f1 := h.f1
  have jl : (j : Int) < n := by omega
  have y1 := IntWalk.i64_in ((j : Int) + 1) (by omega)
  have y2 := IntWalk.i64_in (j : Int) (by omega)
  have hb1 : ¬ lb = b := hb
  have hb2 : ¬ b = lb := fun h => hb h.symm
  clear h hb
  go_enter Tryd.func42, Tryd.ntmps42
  go_wp2_with fail
  refine wp_region_held_drew (S := (fun w3 => w3.cell? ⟨b, 0, none⟩ = some (.slice (some ⟨lb, lo, none⟩) n cap) ∧ w3.cell? ⟨b, 1, none⟩ = some (.int .i64 j))) (by kernel_rfl) ?_ (fun hHeld => ?_)
  focus (first | assumption | exact ⟨by go_simp, by go_simp⟩)
  refine wpAnyH_take (i := 0) (v := ?_) rfl (by kernel_rfl) (by kernel_rfl) (by kernel_rfl) (fun _ _ _ h => h) (Or.inl ⟨by rfl, ?_⟩) (by assumption) ?_; rotate_left; (focus (intro w hSw; (try dsimp only at hSw); go_simp; try with_reducible rfl)); (try simp only [Act.put, List.getElem_toArray, List.getElem_cons_succ, List.getElem_cons_zero, List.setIfInBounds_toArray, List.set_cons_zero, List.set_cons_succ])
  refine wpAnyH_take (i := 1) (v := ?_) rfl (by kernel_rfl) (by kernel_rfl) (by kernel_rfl) (fun _ _ _ h => h) (Or.inl ⟨by rfl, ?_⟩) (by assumption) ?_; rotate_left; (focus (intro w hSw; (try dsimp only at hSw); go_simp; try with_reducible rfl)); (try simp only [Act.put, List.getElem_toArray, List.getElem_cons_succ, List.getElem_cons_zero, List.setIfInBounds_toArray, List.set_cons_zero, List.set_cons_succ])
  refine wpAnyH_take (i := 2) (v := ?_) rfl (by kernel_rfl) (by kernel_rfl) (by kernel_rfl) (fun _ _ _ h => h) (Or.inl ⟨by rfl, ?_⟩) (by assumption) ?_; rotate_left; (focus (intro w hSw; (try dsimp only at hSw); go_simp; try with_reducible rfl)); (try simp only [Act.put, List.getElem_toArray, List.getElem_cons_succ, List.getElem_cons_zero, List.setIfInBounds_toArray, List.set_cons_zero, List.set_cons_succ])
  refine wpAnyH_take (i := 3) (v := ?_) rfl (by kernel_rfl) (by kernel_rfl) (by kernel_rfl) (fun _ _ _ h => h) (Or.inl ⟨by rfl, ?_⟩) (by assumption) ?_; rotate_left; (focus (intro w hSw; (try dsimp only at hSw); go_simp; try with_reducible rfl)); (try simp only [Act.put, List.getElem_toArray, List.getElem_cons_succ, List.getElem_cons_zero, List.setIfInBounds_toArray, List.set_cons_zero, List.set_cons_succ])
  refine wpAnyH_take (i := 4) (v := ?_) rfl (by kernel_rfl) (by kernel_rfl) (by kernel_rfl) (fun _ _ _ h => h) (Or.inl ⟨by rfl, ?_⟩) (by assumption) ?_; rotate_left; (focus (intro w hSw; (try dsimp only at hSw); go_simp; try with_reducible rfl)); (try simp only [Act.put, List.getElem_toArray, List.getElem_cons_succ, List.getElem_cons_zero, List.setIfInBounds_toArray, List.set_cons_zero, List.set_cons_succ])
  refine wpAnyH_take (i := 5) (v := ?_) rfl (by kernel_rfl) (by kernel_rfl) (by kernel_rfl) (fun _ _ _ h => h) (Or.inl ⟨by rfl, ?_⟩) (by assumption) ?_; rotate_left; (focus (intro w hSw; (try dsimp only at hSw); go_simp; try with_reducible rfl)); (try simp only [Act.put, List.getElem_toArray, List.getElem_cons_succ, List.getElem_cons_zero, List.setIfInBounds_toArray, List.set_cons_zero, List.set_cons_succ])
  refine wpAnyH_take (i := 6) (v := ?_) rfl (by kernel_rfl) (by kernel_rfl) (by kernel_rfl) (fun _ _ _ h => h) (Or.inl ⟨by rfl, ?_⟩) (by assumption) ?_; rotate_left; (focus (intro w hSw; (try dsimp only at hSw); go_simp; try with_reducible rfl)); (try simp only [Act.put, List.getElem_toArray, List.getElem_cons_succ, List.getElem_cons_zero, List.setIfInBounds_toArray, List.set_cons_zero, List.set_cons_succ])
  refine wpAnyH_take (i := 7) (v := ?_) rfl (by kernel_rfl) (by kernel_rfl) (by kernel_rfl) (fun _ _ _ h => h) (Or.inl ⟨by rfl, ?_⟩) (by assumption) ?_; rotate_left; (focus (intro w hSw; (try dsimp only at hSw); go_simp; try with_reducible rfl)); (try simp only [Act.put, List.getElem_toArray, List.getElem_cons_succ, List.getElem_cons_zero, List.setIfInBounds_toArray, List.set_cons_zero, List.set_cons_succ])
  refine wpAnyH_take (i := 8) (v := ?_) rfl (by kernel_rfl) (by kernel_rfl) (by kernel_rfl) (fun _ _ _ h => h) (Or.inl ⟨by rfl, ?_⟩) (by assumption) ?_; rotate_left; (focus (intro w hSw; (try dsimp only at hSw); go_simp; try with_reducible rfl)); (try simp only [Act.put, List.getElem_toArray, List.getElem_cons_succ, List.getElem_cons_zero, List.setIfInBounds_toArray, List.set_cons_zero, List.set_cons_succ])
  refine wpAnyH_take (i := 9) (v := ?_) rfl (by kernel_rfl) (by kernel_rfl) (by kernel_rfl) (fun _ _ _ h => h) (Or.inl ⟨by rfl, ?_⟩) (by assumption) ?_; rotate_left; (focus (intro w hSw; (try dsimp only at hSw); go_simp; try with_reducible rfl)); (try simp only [Act.put, List.getElem_toArray, List.getElem_cons_succ, List.getElem_cons_zero, List.setIfInBounds_toArray, List.set_cons_zero, List.set_cons_succ])
  refine wpAnyH_done (by kernel_rfl) ?_ _
  go_wp2_with fail
  refine wp_region_held_drew (S := (fun w3 => w3.cell? ⟨b, 0, none⟩ = some (.slice (some ⟨lb, lo, none⟩) n cap) ∧ w3.cell? ⟨b, 1, none⟩ = some (.int .i64 ((j : Int) + 1)) ∧ w3.cell? ⟨lb, lo + j, none⟩ = some (.int .i64 z))) (by kernel_rfl) ?_ (fun hHeld => ?_)
  focus (first | assumption | exact ⟨by go_simp, by go_simp, by go_simp⟩)
  refine wpAnyH_take (i := 0) (v := ?_) rfl (by kernel_rfl) (by kernel_rfl) (by kernel_rfl) (fun _ _ _ h => h) (Or.inl ⟨by rfl, ?_⟩) (by assumption) ?_; rotate_left; (focus (intro w hSw; (try dsimp only at hSw); go_simp; try with_reducible rfl)); (try simp only [Act.put, List.getElem_toArray, List.getElem_cons_succ, List.getElem_cons_zero, List.setIfInBounds_toArray, List.set_cons_zero, List.set_cons_succ])
  refine wpAnyH_take (i := 1) (v := ?_) rfl (by kernel_rfl) (by kernel_rfl) (by kernel_rfl) (fun _ _ _ h => h) (Or.inl ⟨by rfl, ?_⟩) (by assumption) ?_; rotate_left; (focus (intro w hSw; (try dsimp only at hSw); go_simp; try with_reducible rfl)); (try simp only [Act.put, List.getElem_toArray, List.getElem_cons_succ, List.getElem_cons_zero, List.setIfInBounds_toArray, List.set_cons_zero, List.set_cons_succ])
  refine wpAnyH_take (i := 2) (v := ?_) rfl (by kernel_rfl) (by kernel_rfl) (by kernel_rfl) (fun _ _ _ h => h) (Or.inl ⟨by rfl, ?_⟩) (by assumption) ?_; rotate_left; (focus (intro w hSw; (try dsimp only at hSw); go_simp; try with_reducible rfl)); (try simp only [Act.put, List.getElem_toArray, List.getElem_cons_succ, List.getElem_cons_zero, List.setIfInBounds_toArray, List.set_cons_zero, List.set_cons_succ])
  refine wpAnyH_take (i := 3) (v := ?_) rfl (by kernel_rfl) (by kernel_rfl) (by kernel_rfl) (fun _ _ _ h => h) (Or.inl ⟨by rfl, ?_⟩) (by assumption) ?_; rotate_left; (focus (intro w hSw; (try dsimp only at hSw); go_simp; try with_reducible rfl)); (try simp only [Act.put, List.getElem_toArray, List.getElem_cons_succ, List.getElem_cons_zero, List.setIfInBounds_toArray, List.set_cons_zero, List.set_cons_succ])
  refine wpAnyH_take (i := 4) (v := ?_) rfl (by kernel_rfl) (by kernel_rfl) (by kernel_rfl) (fun _ _ _ h => h) (Or.inl ⟨by rfl, ?_⟩) (by assumption) ?_; rotate_left; (focus (intro w hSw; (try dsimp only at hSw); go_simp; try with_reducible rfl)); (try simp only [Act.put, List.getElem_toArray, List.getElem_cons_succ, List.getElem_cons_zero, List.setIfInBounds_toArray, List.set_cons_zero, List.set_cons_succ])
  refine wpAnyH_take (i := 5) (v := ?_) rfl (by kernel_rfl) (by kernel_rfl) (by kernel_rfl) (fun _ _ _ h => h) (Or.inl ⟨by rfl, ?_⟩) (by assumption) ?_; rotate_left; (focus (intro w hSw; (try dsimp only at hSw); go_simp; try with_reducible rfl)); (try simp only [Act.put, List.getElem_toArray, List.getElem_cons_succ, List.getElem_cons_zero, List.setIfInBounds_toArray, List.set_cons_zero, List.set_cons_succ])
  refine wpAnyH_take (i := 6) (v := ?_) rfl (by kernel_rfl) (by kernel_rfl) (by kernel_rfl) (fun _ _ _ h => h) (Or.inl ⟨by rfl, ?_⟩) (by assumption) ?_; rotate_left; (focus (intro w hSw; (try dsimp only at hSw); go_simp; try with_reducible rfl)); (try simp only [Act.put, List.getElem_toArray, List.getElem_cons_succ, List.getElem_cons_zero, List.setIfInBounds_toArray, List.set_cons_zero, List.set_cons_succ])
  refine wpAnyH_take (i := 7) (v := ?_) rfl (by kernel_rfl) (by kernel_rfl) (by kernel_rfl) (fun _ _ _ h => h) (Or.inl ⟨by rfl, ?_⟩) (by assumption) ?_; rotate_left; (focus (intro w hSw; (try dsimp only at hSw); go_simp; try with_reducible rfl)); (try simp only [Act.put, List.getElem_toArray, List.getElem_cons_succ, List.getElem_cons_zero, List.setIfInBounds_toArray, List.set_cons_zero, List.set_cons_succ])
  refine wpAnyH_take (i := 8) (v := ?_) rfl (by kernel_rfl) (by kernel_rfl) (by kernel_rfl) (fun _ _ _ h => h) (Or.inl ⟨by rfl, ?_⟩) (by assumption) ?_; rotate_left; (focus (intro w hSw; (try dsimp only at hSw); go_simp; try with_reducible rfl)); (try simp only [Act.put, List.getElem_toArray, List.getElem_cons_succ, List.getElem_cons_zero, List.setIfInBounds_toArray, List.set_cons_zero, List.set_cons_succ])
  refine wpAnyH_take (i := 9) (v := ?_) rfl (by kernel_rfl) (by kernel_rfl) (by kernel_rfl) (fun _ _ _ h => h) (Or.inl ⟨by rfl, ?_⟩) (by assumption) ?_; rotate_left; (focus (intro w hSw; (try dsimp only at hSw); go_simp; try with_reducible rfl)); (try simp only [Act.put, List.getElem_toArray, List.getElem_cons_succ, List.getElem_cons_zero, List.setIfInBounds_toArray, List.set_cons_zero, List.set_cons_succ])
  refine wpAnyH_take (i := 10) (v := ?_) rfl (by kernel_rfl) (by kernel_rfl) (by kernel_rfl) (fun _ _ _ h => h) (Or.inl ⟨by rfl, ?_⟩) (by assumption) ?_; rotate_left; (focus (intro w hSw; (try dsimp only at hSw); go_simp; try with_reducible rfl)); (try simp only [Act.put, List.getElem_toArray, List.getElem_cons_succ, List.getElem_cons_zero, List.setIfInBounds_toArray, List.set_cons_zero, List.set_cons_succ])
  refine wpAnyH_take (i := 11) (v := ?_) rfl (by kernel_rfl) (by kernel_rfl) (by kernel_rfl) (fun _ _ _ h => h) (Or.inl ⟨by rfl, ?_⟩) (by assumption) ?_; rotate_left; (focus (intro w hSw; (try dsimp only at hSw); go_simp; try with_reducible rfl)); (try simp only [Act.put, List.getElem_toArray, List.getElem_cons_succ, List.getElem_cons_zero, List.setIfInBounds_toArray, List.set_cons_zero, List.set_cons_succ])
  refine wpAnyH_ready (rs := [12]) (by kernel_rfl) (by simp) (AllReadyH.cons rfl (fun K hK => ?_) AllReadyH.nil); go_simp; ((go_at_call 16; refine (Round_any _ _ _ k1 k2 z1 z2).mono ?_; rintro e w' ⟨rfl, rfl⟩)); go_wp2_with fail; refine hK.out _ _ ?_ (fun hHeld => ?_); (focus (first | assumption | exact ⟨by go_simp, by go_simp, by go_simp⟩)); clear hK K; (try simp only [Act.put, List.getElem_toArray, List.getElem_cons_succ, List.getElem_cons_zero, List.setIfInBounds_toArray, List.set_cons_zero, List.set_cons_succ])
  refine wpAnyH_take (i := 13) (v := ?_) rfl (by kernel_rfl) (by kernel_rfl) (by kernel_rfl) (fun _ _ _ h => h) (Or.inl ⟨by rfl, ?_⟩) (by assumption) ?_; rotate_left; (focus (intro w hSw; (try dsimp only at hSw); go_simp; try with_reducible rfl)); (try simp only [Act.put, List.getElem_toArray, List.getElem_cons_succ, List.getElem_cons_zero, List.setIfInBounds_toArray, List.set_cons_zero, List.set_cons_succ])
  refine wpAnyH_done (by kernel_rfl) ?_ _
  go_wp2_with fail
  go_ret
  exact ⟨rfl, rfl⟩

theorem But.refl (b : Nat) (w : World) : But b w w := ⟨rfl, rfl, rfl, Nat.le_refl _, fun _ _ _ => rfl⟩
theorem But.trans {b : Nat} {u v w : World} (h : But b u v) (k : But b v w) : But b u w :=
  ⟨k.os.trans h.os, k.tape.trans h.tape, k.output.trans h.output, Nat.le_trans h.size k.size, fun i hi hb => (k.block i (Nat.lt_of_lt_of_le hi h.size) hb).trans (h.block i hi hb)⟩
theorem But.drew {b : Nat} {u v : World} (h : But b u v) : But b u v.drew := ⟨h.os, h.tape, h.output, h.size, h.block⟩
theorem But.set {b : Nat} {u v : World} (h : But b u v) (x : Value) (o : Nat) : But b u (v.setCell ⟨b, o, none⟩ x) :=
  ⟨h.os, h.tape, h.output, by rw [Go.Deep.nblk_setCell]; exact h.size, fun i hi hb => (heap_setCell_other _ _ _ _ hb).trans (h.block i hi hb)⟩
/-- What was below a base stays so. -/
theorem But.below {b B : Nat} {w u v : World} (h : But b u v) (hb : Below B w u) (hB : B ≤ b) (hs : B ≤ u.heap.size) : Below B w v :=
  ⟨h.os.trans hb.os, h.tape.trans hb.tape, h.output.trans hb.output, Nat.le_trans hb.size h.size, fun i hi => (h.block i (by omega) (by omega)).trans (hb.block i hi)⟩
/-- A source whose list lies below a base, in whatever place it stands. -/
def Src (B : Nat) (W : World) (b : Nat) : Prop := ∃ (ao : Option Addr) (n cap j : Nat), SrcAt W b (.slice ao n cap) j ∧ j ≤ n ∧ n ≤ 9223372036854775807 ∧ B ≤ b ∧
  ∀ t, t < n → ∃ lb lo z, ao = some ⟨lb, lo, none⟩ ∧ lb < B ∧ W.cell? ⟨lb, lo + t, none⟩ = some (.int .i64 z) ∧ -9223372036854775808 ≤ z ∧ z ≤ 9223372036854775807
theorem Src.but {B b q : Nat} {u v : World} (h : Src B u b) (k : But q u v) (hq : b ≠ q) (hB : B ≤ q) (hs : B ≤ u.heap.size) : Src B v b := by
  obtain ⟨ao, n, cap, j, h1, h2, h3, h4, h5⟩ := h
  refine ⟨ao, n, cap, j, (k.block b (lt_of_block h1) hq).trans h1, h2, h3, h4, fun t ht => ?_⟩
  obtain ⟨lb, lo, z, e, hl, hz, z1, z2⟩ := h5 t ht
  exact ⟨lb, lo, z, e, hl, by rw [World.cell?_of_block (w := u) (k.block lb (by omega) (by omega))]; exact hz, z1, z2⟩
theorem Src.below {B b : Nat} {u v : World} (h : Src B u b) (k : Below u.heap.size u v) : Src B v b := by
  obtain ⟨ao, n, cap, j, h1, h2, h3, h4, h5⟩ := h
  refine ⟨ao, n, cap, j, (k.block b (lt_of_block h1)).trans h1, h2, h3, h4, fun t ht => ?_⟩
  obtain ⟨lb, lo, z, e, hl, hz, z1, z2⟩ := h5 t ht
  exact ⟨lb, lo, z, e, hl, by rw [k.cell (World.block_lt_of_cell? u _ hz)]; exact hz, z1, z2⟩
theorem Next_any (B b : Nat) (k : Int) (w : World) (h : Src B w b) (k1 : 0 < k) (k2 : k ≤ 9223372036854775807) :
    Calls Tryd.prog 42 #[ .pointer (some ⟨b, 0, none⟩), .int .i64 k ] w fun e w' => ∃ r : Int, 0 ≤ r ∧ r < k ∧ e = .returned (.int .i64 r) ∧ Src B w' b ∧ But b w w' := by
  obtain ⟨ao, n, cap, j, h1, h2, h3, h4, h5⟩ := h
  rcases Nat.lt_or_ge j n with hj | hj
  · obtain ⟨lb, lo, z, rfl, hl, hz, z1, z2⟩ := h5 j hj
    refine (Next_some b lb lo n cap j k z w h1 hj h3 hz (by omega) z1 z2 k1 k2).mono ?_
    rintro e w' ⟨rfl, rfl⟩
    have hbut : But b w (w.setCell ⟨b, 1, none⟩ (.int .i64 (j + 1 : Nat))).drew.drew := ((But.refl b w).set _ _).drew.drew
    refine ⟨_, Int.emod_nonneg _ (by omega), Int.emod_lt_of_pos _ k1, rfl, ⟨_, n, cap, j + 1, (h1.set _).drew.drew, hj, h3, h4, fun t ht => ?_⟩, hbut⟩
    obtain ⟨lb', lo', z', e, hl', hz', z1', z2'⟩ := h5 t ht
    exact ⟨lb', lo', z', e, hl', by rw [World.cell?_of_block (w := w) (hbut.block lb' (World.block_lt_of_cell? w _ hz') (by omega))]; exact hz', z1', z2'⟩
  · refine (Next_none b n cap ao j k w h1 (by omega)).mono ?_
    rintro e w' ⟨rfl, rfl⟩
    exact ⟨0, Int.le_refl _, k1, rfl, ⟨ao, n, cap, j, h1.drew, h2, h3, h4, h5⟩, (But.refl b w).drew⟩
theorem Signed_any (B b : Nat) (k : Int) (w : World) (h : Src B w b) (k1 : 0 ≤ k) (k2 : k ≤ 1099511627776) :
    Calls Tryd.prog 44 #[ .pointer (some ⟨b, 0, none⟩), .int .i64 k ] w fun e w' => ∃ r : Int, -k ≤ r ∧ r ≤ k ∧ e = .returned (.int .i64 r) ∧ Src B w' b ∧ But b w w' := by
  go_enter Tryd.func44, Tryd.ntmps44
  go_wp2_with fail
  refine (Next_any B b _ _ h (by omega) (by omega)).mono ?_
  rintro e w1 ⟨r, r1, r2, rfl, hs, hb⟩
  go_wp2_with fail
  go_ret
  exact ⟨r - k, by omega, by omega, rfl, hs, hb⟩
theorem From_any (ao : Option Addr) (n cap : Nat) (w : World) :
    Calls Tryd.prog 28 #[ .slice ao n cap ] w fun e w' => e = .returned (.pointer (some ⟨w.heap.size, 0, none⟩)) ∧ SrcAt w' w.heap.size (.slice ao n cap) 0 ∧ Below w.heap.size w w' := by
  go_enter Tryd.func28, Tryd.ntmps28
  go_wp2_with fail
  go_ret
  exact ⟨rfl, heap_alloc_new _ _, (Below.refl _ _).alloc (Nat.le_refl _) _⟩
end Go.Proofs.YtpaiapcnoifpmaaDoor
namespace Go.Proofs.YtpaiapcnoifpmaaDoor
open Go.RowKit Go.ChangeShapes Go.WideShapes

/-- A slice of n numbers lies in memory that was there. -/
def ListAt (W : World) (a : Option Addr) (n : Nat) : Prop := n ≤ 9223372036854775807 ∧
  ∀ t, t < n → ∃ lb lo z, a = some ⟨lb, lo, none⟩ ∧ lb < W.heap.size ∧ W.cell? ⟨lb, lo + t, none⟩ = some (.int .i64 z) ∧ -9223372036854775808 ≤ z ∧ z ≤ 9223372036854775807
theorem list_of {H : Type} {enc : TypeId × Value → H} {P : Program} {t e : TypeId} {W : World} {a : Option Addr} {n c : Nat} {d : DataW H} {p : List MemPlace} (ht : P.underlying t = some (.slice e)) (he : P.underlying e = some (.int .i64)) (hc : P.cellsOf e = 1)
    (h : DataW.Trod enc P W 0 (fun _ => true) true t (.slice a n c) d p) : ListAt W a n := by
  obtain ⟨fuel, hf⟩ := h
  rcases open_ints ht he hc hf with ⟨hcs, hx⟩ | ⟨a', len, cap, zs, hcs, _, hl, hm, hz, hx, hcell, hwz⟩
  · simp [Value.cells] at hcs
    obtain ⟨rfl, rfl, rfl⟩ := hcs
    exact ⟨by decide, fun t h => by omega⟩
  · simp [Value.cells] at hcs
    obtain ⟨rfl, rfl, rfl⟩ := hcs
    simp only [if_true] at hz
    unfold maxLen at hm
    refine ⟨by omega, fun t h => ?_⟩
    obtain ⟨b, off, rfl, hc2⟩ := ints_at hcell (by omega)
    have h1 := hc2 t (by omega)
    have hw := hwz (zs.getD t 0) (by rw [List.getD_eq_getElem?_getD, List.getElem?_eq_getElem (by omega)]; exact List.getElem_mem _)
    obtain ⟨w1, w2⟩ := bounds_i64 hw
    exact ⟨b, off, zs.getD t 0, rfl, World.block_lt_of_cell? W _ h1, h1, w1, w2⟩
/-- A source over such a slice. -/
theorem src_of {w w' : World} {a : Option Addr} {n c : Nat} (h : ListAt w a n) (hb : Below w.heap.size w w') (hs : SrcAt w' w.heap.size (.slice a n c) 0) : Src w.heap.size w' w.heap.size :=
  ⟨a, n, c, 0, hs, Nat.zero_le _, h.1, Nat.le_refl _, fun t ht => by
    obtain ⟨lb, lo, z, e, hl, hz, z1, z2⟩ := h.2 t ht
    exact ⟨lb, lo, z, e, hl, by rw [hb.cell (p := ⟨lb, lo + t, none⟩) hl]; exact hz, z1, z2⟩⟩
end Go.Proofs.YtpaiapcnoifpmaaDoor
