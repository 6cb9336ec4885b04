/- Proved: the developers' table of chapter 7, a map that a function makes; what a statement's first word and its number of arguments give. Conditions: as each theorem states. -/
import Derived.Test.YtpaiapcnoifpmaaDoorSy4
import Derived.Test.YtpaiapcnoifpmaaDoorMap
import Derived.Deep.DeepCutAuto
namespace Go.Proofs.YtpaiapcnoifpmaaDoor
open Go.RowKit

/-- The numbers of arguments by the word's place. -/
def cntK : Nat → Int × Int
  | 0 => (9, 9)
  | 1 => (4, 4)
  | 2 => (5, 5)
  | 3 => (5, 26)
  | 4 => (2, 2)
  | _ => (0, 0)
def hasK (lo hi n : Int) : Bool := decide (lo ≤ n ∧ n ≤ hi ∧ (n - lo) % 3 = 0)
theorem has_args (k : Nat) (n : Int) : (knownK k && hasK (cntK k).1 (cntK k).2 n) = argsK k n := by
  rw [Bool.eq_iff_iff]
  match k with
  | 0 => simp [knownK, hasK, cntK, argsK]; omega
  | 1 => simp [knownK, hasK, cntK, argsK]; omega
  | 2 => simp [knownK, hasK, cntK, argsK]; omega
  | 3 => simp [knownK, hasK, cntK, argsK]; omega
  | 4 => simp [knownK, hasK, cntK, argsK]; omega
  | k + 5 => simp [knownK, argsK, show ¬ k + 5 < 5 by omega]
set_option linter.unusedSimpArgs false in
set_option linter.unusedVariables false in
set_option maxHeartbeats 3200000 in
theorem exactly_any (n : Int) (w : World) : Calls Tryd.prog 101 #[ .int .i64 n ] w fun e w' => e = .returned (.agg #[.int .i64 n, .int .i64 n]) ∧ Below w.heap.size w w' := by
  go_enter Tryd.func101, Tryd.ntmps101
  go_wp2_with fail
  exact bodyPost_ret (v := .agg #[.int .i64 n, .int .i64 n]) (by simp [results, Tryd.results101, go_sem]) rfl ⟨rfl, by first | exact ((Below.refl _ w).alloc (Nat.le_refl _) _) | (refine Below.setCell ?_ ?_ _; exact ((Below.refl _ w).alloc (Nat.le_refl _) _); simp) | (refine Below.setCell (Below.setCell ?_ ?_ _) ?_ _; exact ((Below.refl _ w).alloc (Nat.le_refl _) _); simp; simp)⟩
set_option linter.unusedSimpArgs false in
set_option linter.unusedVariables false in
set_option maxHeartbeats 3200000 in
theorem has_any (lo hi n : Int) (w : World) (l1 : 0 ≤ lo) (l2 : lo ≤ 100) (h1 : hi ≤ 100) (n1 : -9223372036854775808 ≤ n) (n2 : n ≤ 9223372036854775807) :
    Calls Tryd.prog 94 #[ .agg #[.int .i64 lo, .int .i64 hi], .int .i64 n ] w fun e w' => e = .returned (.bool (hasK lo hi n)) ∧ Below w.heap.size w w' := by
  by_cases a1 : lo ≤ n
  · by_cases a2 : n ≤ hi
    · have hm : (n - lo).tmod 3 = (n - lo) % 3 := Int.tmod_eq_emod_of_nonneg (by omega)
      have hk : hasK lo hi n = ((n - lo) % 3 == 0) := by rw [Bool.eq_iff_iff]; simp [hasK, a1, a2]
      rw [hk]
      go_enter Tryd.func94, Tryd.ntmps94
      go_wp2_with fail
      go_ret
      exact ⟨rfl, (Below.refl _ w).alloc (Nat.le_refl _) _⟩
    · have hk : hasK lo hi n = false := by simp [hasK]; omega
      rw [hk]
      go_enter Tryd.func94, Tryd.ntmps94
      go_wp2_with fail
      go_ret
      exact ⟨rfl, (Below.refl _ w).alloc (Nat.le_refl _) _⟩
  · have hk : hasK lo hi n = false := by simp [hasK]; omega
    rw [hk]
    go_enter Tryd.func94, Tryd.ntmps94
    go_wp2_with fail
    go_ret
    exact ⟨rfl, (Below.refl _ w).alloc (Nat.le_refl _) _⟩
theorem sw_map : Tryd.prog.underlying 142 = some (.map 9 140) := by kernel_rfl
theorem sw_cnt (w : World) : (zeroValue 140).run Tryd.prog w = .ok (.agg #[.int .i64 0, .int .i64 0]) w := by kernel_rfl
theorem run_ins {W : World} {B clock : Nat} {es : Array MapEntry} {key : ByteArray} {v : Value} (hB : W.heap[B]? = some (.map es clock)) (hf : Instr.findNow .string (.string key) es.toList 0 = some none) :
    (Instr.mapUpdate 142 (.map (some B)) (.string key) v).run Tryd.prog W = .ok () (setObj W B (.map (es.push { key := .string key, val := v, born := clock }) (clock + 1))) := by
  simp [Instr.mapUpdate, run_underlying sw_map, MapKept.run_getObj_map hB, MapKept.run_checkKey sw_str (k := .string key) (by trivial), MapKept.run_findKey sw_str hf, MapKept.run_setObj_map _ hB, Result.andThen, setObj]
theorem run_look {W : World} {B clock : Nat} {es : Array MapEntry} {key : ByteArray} {i : Nat} {v : Value} (hB : W.heap[B]? = some (.map es clock)) (hf : Instr.findNow .string (.string key) es.toList 0 = some (some (i, v))) :
    (Instr.lookup 142 (.map (some B)) (.string key) true).run Tryd.prog W = .ok (.tuple #[v, .bool true]) W := by
  simp [Instr.lookup, run_underlying sw_map, MapKept.run_getObj_map hB, MapKept.run_checkKey sw_str (k := .string key) (by trivial), MapKept.run_findKey sw_str hf, Result.andThen]
theorem run_miss {W : World} {B clock : Nat} {es : Array MapEntry} {key : ByteArray} (hB : W.heap[B]? = some (.map es clock)) (hf : Instr.findNow .string (.string key) es.toList 0 = some none) :
    (Instr.lookup 142 (.map (some B)) (.string key) true).run Tryd.prog W = .ok (.tuple #[.agg #[.int .i64 0, .int .i64 0], .bool false]) W := by
  simp [Instr.lookup, run_underlying sw_map, MapKept.run_getObj_map hB, MapKept.run_checkKey sw_str (k := .string key) (by trivial), MapKept.run_findKey sw_str hf, Result.andThen]
def tabE : Array MapEntry := #[{ key := .string ⟨#[106, 111, 105, 110, 116]⟩, val := .agg #[.int .i64 9, .int .i64 9], born := 0 }, { key := .string ⟨#[108, 105, 109, 105, 116]⟩, val := .agg #[.int .i64 4, .int .i64 4], born := 1 }, { key := .string ⟨#[109, 97, 115, 115]⟩, val := .agg #[.int .i64 5, .int .i64 5], born := 2 }, { key := .string ⟨#[115, 104, 97, 112, 101]⟩, val := .agg #[.int .i64 5, .int .i64 26], born := 3 }, { key := .string ⟨#[115, 107, 105, 112]⟩, val := .agg #[.int .i64 2, .int .i64 2], born := 4 }]
set_option linter.unusedSimpArgs false in
set_option linter.unusedVariables false in
set_option maxRecDepth 100000 in
set_option maxHeartbeats 6400000 in
theorem table_any (w : World) : Calls Tryd.prog 93 #[ ] w fun e w' => e = .returned (.map (some w.heap.size)) ∧ w'.heap[w.heap.size]? = some (.map tabE 5) ∧ Below w.heap.size w w' := by
  have hmm := @run_makeMap Tryd.prog
  have hB0 : Below w.heap.size w (w.alloc (.map #[] 0)) := (Below.refl _ w).alloc (Nat.le_refl _) _
  have hM0 : (w.alloc (.map #[] 0)).heap[w.heap.size]? = some (.map #[] 0) := heap_alloc_new _ _
  have hlt0 : w.heap.size < (w.alloc (.map #[] 0)).heap.size := by simp
  go_enter Tryd.func93, Tryd.ntmps93
  go_wp2_with fail
  generalize (w.alloc (.map #[] 0)) = U0 at hB0 hM0 hlt0 ⊢
  clear hmm
  refine (exactly_any 9 _).mono ?_
  rintro e V0 ⟨rfl, hb0⟩
  have hN0 : V0.heap[w.heap.size]? = some (.map #[] 0) := (hb0.block _ hlt0).trans hM0
  have hC0 : Below w.heap.size w V0 := hB0.trans (hb0.mono (by omega))
  have hI0 := run_ins (key := ⟨#[106, 111, 105, 110, 116]⟩) (v := .agg #[.int .i64 9, .int .i64 9]) hN0 (by rfl)
  have hB1 : Below w.heap.size w (setObj V0 w.heap.size (.map #[{ key := .string ⟨#[106, 111, 105, 110, 116]⟩, val := .agg #[.int .i64 9, .int .i64 9], born := 0 }] 1)) := below_setObj hC0 (Nat.le_refl _)
  have hM1 : (setObj V0 w.heap.size (.map #[{ key := .string ⟨#[106, 111, 105, 110, 116]⟩, val := .agg #[.int .i64 9, .int .i64 9], born := 0 }] 1)).heap[w.heap.size]? = some (.map #[{ key := .string ⟨#[106, 111, 105, 110, 116]⟩, val := .agg #[.int .i64 9, .int .i64 9], born := 0 }] 1) := setObj_same hN0
  have hlt1 : w.heap.size < (setObj V0 w.heap.size (.map #[{ key := .string ⟨#[106, 111, 105, 110, 116]⟩, val := .agg #[.int .i64 9, .int .i64 9], born := 0 }] 1)).heap.size := by rw [setObj_size]; have := hb0.size; omega
  simp only [List.push_toArray, List.cons_append, List.nil_append] at hI0
  clear hM0 hB0 hC0 hN0 hb0 hlt0
  go_wp2_with fail
  clear hI0
  generalize (setObj V0 w.heap.size (.map #[{ key := .string ⟨#[106, 111, 105, 110, 116]⟩, val := .agg #[.int .i64 9, .int .i64 9], born := 0 }] 1)) = U1 at hB1 hM1 hlt1 ⊢
  refine (exactly_any 4 _).mono ?_
  rintro e V1 ⟨rfl, hb1⟩
  have hN1 : V1.heap[w.heap.size]? = some (.map #[{ key := .string ⟨#[106, 111, 105, 110, 116]⟩, val := .agg #[.int .i64 9, .int .i64 9], born := 0 }] 1) := (hb1.block _ hlt1).trans hM1
  have hC1 : Below w.heap.size w V1 := hB1.trans (hb1.mono (by omega))
  have hI1 := run_ins (key := ⟨#[108, 105, 109, 105, 116]⟩) (v := .agg #[.int .i64 4, .int .i64 4]) hN1 (by rfl)
  have hB2 : Below w.heap.size w (setObj V1 w.heap.size (.map #[{ key := .string ⟨#[106, 111, 105, 110, 116]⟩, val := .agg #[.int .i64 9, .int .i64 9], born := 0 }, { key := .string ⟨#[108, 105, 109, 105, 116]⟩, val := .agg #[.int .i64 4, .int .i64 4], born := 1 }] 2)) := below_setObj hC1 (Nat.le_refl _)
  have hM2 : (setObj V1 w.heap.size (.map #[{ key := .string ⟨#[106, 111, 105, 110, 116]⟩, val := .agg #[.int .i64 9, .int .i64 9], born := 0 }, { key := .string ⟨#[108, 105, 109, 105, 116]⟩, val := .agg #[.int .i64 4, .int .i64 4], born := 1 }] 2)).heap[w.heap.size]? = some (.map #[{ key := .string ⟨#[106, 111, 105, 110, 116]⟩, val := .agg #[.int .i64 9, .int .i64 9], born := 0 }, { key := .string ⟨#[108, 105, 109, 105, 116]⟩, val := .agg #[.int .i64 4, .int .i64 4], born := 1 }] 2) := setObj_same hN1
  have hlt2 : w.heap.size < (setObj V1 w.heap.size (.map #[{ key := .string ⟨#[106, 111, 105, 110, 116]⟩, val := .agg #[.int .i64 9, .int .i64 9], born := 0 }, { key := .string ⟨#[108, 105, 109, 105, 116]⟩, val := .agg #[.int .i64 4, .int .i64 4], born := 1 }] 2)).heap.size := by rw [setObj_size]; have := hb1.size; omega
  simp only [List.push_toArray, List.cons_append, List.nil_append] at hI1
  clear hM1 hB1 hC1 hN1 hb1 hlt1
  go_wp2_with fail
  clear hI1
  generalize (setObj V1 w.heap.size (.map #[{ key := .string ⟨#[106, 111, 105, 110, 116]⟩, val := .agg #[.int .i64 9, .int .i64 9], born := 0 }, { key := .string ⟨#[108, 105, 109, 105, 116]⟩, val := .agg #[.int .i64 4, .int .i64 4], born := 1 }] 2)) = U2 at hB2 hM2 hlt2 ⊢
  refine (exactly_any 5 _).mono ?_
  rintro e V2 ⟨rfl, hb2⟩
  have hN2 : V2.heap[w.heap.size]? = some (.map #[{ key := .string ⟨#[106, 111, 105, 110, 116]⟩, val := .agg #[.int .i64 9, .int .i64 9], born := 0 }, { key := .string ⟨#[108, 105, 109, 105, 116]⟩, val := .agg #[.int .i64 4, .int .i64 4], born := 1 }] 2) := (hb2.block _ hlt2).trans hM2
  have hC2 : Below w.heap.size w V2 := hB2.trans (hb2.mono (by omega))
  have hI2 := run_ins (key := ⟨#[109, 97, 115, 115]⟩) (v := .agg #[.int .i64 5, .int .i64 5]) hN2 (by rfl)
  have hB3 : Below w.heap.size w (setObj V2 w.heap.size (.map #[{ key := .string ⟨#[106, 111, 105, 110, 116]⟩, val := .agg #[.int .i64 9, .int .i64 9], born := 0 }, { key := .string ⟨#[108, 105, 109, 105, 116]⟩, val := .agg #[.int .i64 4, .int .i64 4], born := 1 }, { key := .string ⟨#[109, 97, 115, 115]⟩, val := .agg #[.int .i64 5, .int .i64 5], born := 2 }] 3)) := below_setObj hC2 (Nat.le_refl _)
  have hM3 : (setObj V2 w.heap.size (.map #[{ key := .string ⟨#[106, 111, 105, 110, 116]⟩, val := .agg #[.int .i64 9, .int .i64 9], born := 0 }, { key := .string ⟨#[108, 105, 109, 105, 116]⟩, val := .agg #[.int .i64 4, .int .i64 4], born := 1 }, { key := .string ⟨#[109, 97, 115, 115]⟩, val := .agg #[.int .i64 5, .int .i64 5], born := 2 }] 3)).heap[w.heap.size]? = some (.map #[{ key := .string ⟨#[106, 111, 105, 110, 116]⟩, val := .agg #[.int .i64 9, .int .i64 9], born := 0 }, { key := .string ⟨#[108, 105, 109, 105, 116]⟩, val := .agg #[.int .i64 4, .int .i64 4], born := 1 }, { key := .string ⟨#[109, 97, 115, 115]⟩, val := .agg #[.int .i64 5, .int .i64 5], born := 2 }] 3) := setObj_same hN2
  have hlt3 : w.heap.size < (setObj V2 w.heap.size (.map #[{ key := .string ⟨#[106, 111, 105, 110, 116]⟩, val := .agg #[.int .i64 9, .int .i64 9], born := 0 }, { key := .string ⟨#[108, 105, 109, 105, 116]⟩, val := .agg #[.int .i64 4, .int .i64 4], born := 1 }, { key := .string ⟨#[109, 97, 115, 115]⟩, val := .agg #[.int .i64 5, .int .i64 5], born := 2 }] 3)).heap.size := by rw [setObj_size]; have := hb2.size; omega
  simp only [List.push_toArray, List.cons_append, List.nil_append] at hI2
  clear hM2 hB2 hC2 hN2 hb2 hlt2
  generalize (setObj V2 w.heap.size (.map #[{ key := .string ⟨#[106, 111, 105, 110, 116]⟩, val := .agg #[.int .i64 9, .int .i64 9], born := 0 }, { key := .string ⟨#[108, 105, 109, 105, 116]⟩, val := .agg #[.int .i64 4, .int .i64 4], born := 1 }, { key := .string ⟨#[109, 97, 115, 115]⟩, val := .agg #[.int .i64 5, .int .i64 5], born := 2 }] 3)) = U3 at hI2 hB3 hM3 hlt3
  have hI3 := run_ins (key := ⟨#[115, 104, 97, 112, 101]⟩) (v := .agg #[.int .i64 5, .int .i64 26]) hM3 (by rfl)
  have hB4 : Below w.heap.size w (setObj U3 w.heap.size (.map #[{ key := .string ⟨#[106, 111, 105, 110, 116]⟩, val := .agg #[.int .i64 9, .int .i64 9], born := 0 }, { key := .string ⟨#[108, 105, 109, 105, 116]⟩, val := .agg #[.int .i64 4, .int .i64 4], born := 1 }, { key := .string ⟨#[109, 97, 115, 115]⟩, val := .agg #[.int .i64 5, .int .i64 5], born := 2 }, { key := .string ⟨#[115, 104, 97, 112, 101]⟩, val := .agg #[.int .i64 5, .int .i64 26], born := 3 }] 4)) := below_setObj hB3 (Nat.le_refl _)
  have hM4 : (setObj U3 w.heap.size (.map #[{ key := .string ⟨#[106, 111, 105, 110, 116]⟩, val := .agg #[.int .i64 9, .int .i64 9], born := 0 }, { key := .string ⟨#[108, 105, 109, 105, 116]⟩, val := .agg #[.int .i64 4, .int .i64 4], born := 1 }, { key := .string ⟨#[109, 97, 115, 115]⟩, val := .agg #[.int .i64 5, .int .i64 5], born := 2 }, { key := .string ⟨#[115, 104, 97, 112, 101]⟩, val := .agg #[.int .i64 5, .int .i64 26], born := 3 }] 4)).heap[w.heap.size]? = some (.map #[{ key := .string ⟨#[106, 111, 105, 110, 116]⟩, val := .agg #[.int .i64 9, .int .i64 9], born := 0 }, { key := .string ⟨#[108, 105, 109, 105, 116]⟩, val := .agg #[.int .i64 4, .int .i64 4], born := 1 }, { key := .string ⟨#[109, 97, 115, 115]⟩, val := .agg #[.int .i64 5, .int .i64 5], born := 2 }, { key := .string ⟨#[115, 104, 97, 112, 101]⟩, val := .agg #[.int .i64 5, .int .i64 26], born := 3 }] 4) := setObj_same hM3
  have hlt4 : w.heap.size < (setObj U3 w.heap.size (.map #[{ key := .string ⟨#[106, 111, 105, 110, 116]⟩, val := .agg #[.int .i64 9, .int .i64 9], born := 0 }, { key := .string ⟨#[108, 105, 109, 105, 116]⟩, val := .agg #[.int .i64 4, .int .i64 4], born := 1 }, { key := .string ⟨#[109, 97, 115, 115]⟩, val := .agg #[.int .i64 5, .int .i64 5], born := 2 }, { key := .string ⟨#[115, 104, 97, 112, 101]⟩, val := .agg #[.int .i64 5, .int .i64 26], born := 3 }] 4)).heap.size := by rw [setObj_size]; omega
  simp only [List.push_toArray, List.cons_append, List.nil_append] at hI3
  generalize (setObj U3 w.heap.size (.map #[{ key := .string ⟨#[106, 111, 105, 110, 116]⟩, val := .agg #[.int .i64 9, .int .i64 9], born := 0 }, { key := .string ⟨#[108, 105, 109, 105, 116]⟩, val := .agg #[.int .i64 4, .int .i64 4], born := 1 }, { key := .string ⟨#[109, 97, 115, 115]⟩, val := .agg #[.int .i64 5, .int .i64 5], born := 2 }, { key := .string ⟨#[115, 104, 97, 112, 101]⟩, val := .agg #[.int .i64 5, .int .i64 26], born := 3 }] 4)) = U4 at hI3 hB4 hM4 hlt4
  go_wp2_with fail
  clear hI2 hI3 hB3 hM3 hlt3
  refine (exactly_any 2 _).mono ?_
  rintro e V4 ⟨rfl, hb4⟩
  have hN4 : V4.heap[w.heap.size]? = some (.map #[{ key := .string ⟨#[106, 111, 105, 110, 116]⟩, val := .agg #[.int .i64 9, .int .i64 9], born := 0 }, { key := .string ⟨#[108, 105, 109, 105, 116]⟩, val := .agg #[.int .i64 4, .int .i64 4], born := 1 }, { key := .string ⟨#[109, 97, 115, 115]⟩, val := .agg #[.int .i64 5, .int .i64 5], born := 2 }, { key := .string ⟨#[115, 104, 97, 112, 101]⟩, val := .agg #[.int .i64 5, .int .i64 26], born := 3 }] 4) := (hb4.block _ hlt4).trans hM4
  have hC4 : Below w.heap.size w V4 := hB4.trans (hb4.mono (by omega))
  have hI4 := run_ins (key := ⟨#[115, 107, 105, 112]⟩) (v := .agg #[.int .i64 2, .int .i64 2]) hN4 (by rfl)
  have hB5 : Below w.heap.size w (setObj V4 w.heap.size (.map #[{ key := .string ⟨#[106, 111, 105, 110, 116]⟩, val := .agg #[.int .i64 9, .int .i64 9], born := 0 }, { key := .string ⟨#[108, 105, 109, 105, 116]⟩, val := .agg #[.int .i64 4, .int .i64 4], born := 1 }, { key := .string ⟨#[109, 97, 115, 115]⟩, val := .agg #[.int .i64 5, .int .i64 5], born := 2 }, { key := .string ⟨#[115, 104, 97, 112, 101]⟩, val := .agg #[.int .i64 5, .int .i64 26], born := 3 }, { key := .string ⟨#[115, 107, 105, 112]⟩, val := .agg #[.int .i64 2, .int .i64 2], born := 4 }] 5)) := below_setObj hC4 (Nat.le_refl _)
  have hM5 : (setObj V4 w.heap.size (.map #[{ key := .string ⟨#[106, 111, 105, 110, 116]⟩, val := .agg #[.int .i64 9, .int .i64 9], born := 0 }, { key := .string ⟨#[108, 105, 109, 105, 116]⟩, val := .agg #[.int .i64 4, .int .i64 4], born := 1 }, { key := .string ⟨#[109, 97, 115, 115]⟩, val := .agg #[.int .i64 5, .int .i64 5], born := 2 }, { key := .string ⟨#[115, 104, 97, 112, 101]⟩, val := .agg #[.int .i64 5, .int .i64 26], born := 3 }, { key := .string ⟨#[115, 107, 105, 112]⟩, val := .agg #[.int .i64 2, .int .i64 2], born := 4 }] 5)).heap[w.heap.size]? = some (.map #[{ key := .string ⟨#[106, 111, 105, 110, 116]⟩, val := .agg #[.int .i64 9, .int .i64 9], born := 0 }, { key := .string ⟨#[108, 105, 109, 105, 116]⟩, val := .agg #[.int .i64 4, .int .i64 4], born := 1 }, { key := .string ⟨#[109, 97, 115, 115]⟩, val := .agg #[.int .i64 5, .int .i64 5], born := 2 }, { key := .string ⟨#[115, 104, 97, 112, 101]⟩, val := .agg #[.int .i64 5, .int .i64 26], born := 3 }, { key := .string ⟨#[115, 107, 105, 112]⟩, val := .agg #[.int .i64 2, .int .i64 2], born := 4 }] 5) := setObj_same hN4
  have hlt5 : w.heap.size < (setObj V4 w.heap.size (.map #[{ key := .string ⟨#[106, 111, 105, 110, 116]⟩, val := .agg #[.int .i64 9, .int .i64 9], born := 0 }, { key := .string ⟨#[108, 105, 109, 105, 116]⟩, val := .agg #[.int .i64 4, .int .i64 4], born := 1 }, { key := .string ⟨#[109, 97, 115, 115]⟩, val := .agg #[.int .i64 5, .int .i64 5], born := 2 }, { key := .string ⟨#[115, 104, 97, 112, 101]⟩, val := .agg #[.int .i64 5, .int .i64 26], born := 3 }, { key := .string ⟨#[115, 107, 105, 112]⟩, val := .agg #[.int .i64 2, .int .i64 2], born := 4 }] 5)).heap.size := by rw [setObj_size]; have := hb4.size; omega
  simp only [List.push_toArray, List.cons_append, List.nil_append] at hI4
  clear hM4 hB4 hC4 hN4 hb4 hlt4
  go_wp2_with fail
  clear hI4
  generalize (setObj V4 w.heap.size (.map #[{ key := .string ⟨#[106, 111, 105, 110, 116]⟩, val := .agg #[.int .i64 9, .int .i64 9], born := 0 }, { key := .string ⟨#[108, 105, 109, 105, 116]⟩, val := .agg #[.int .i64 4, .int .i64 4], born := 1 }, { key := .string ⟨#[109, 97, 115, 115]⟩, val := .agg #[.int .i64 5, .int .i64 5], born := 2 }, { key := .string ⟨#[115, 104, 97, 112, 101]⟩, val := .agg #[.int .i64 5, .int .i64 26], born := 3 }, { key := .string ⟨#[115, 107, 105, 112]⟩, val := .agg #[.int .i64 2, .int .i64 2], born := 4 }] 5)) = U5 at hB5 hM5 hlt5 ⊢
  go_ret
  exact ⟨rfl, hM5, hB5⟩
/-- What a word finds in the table. -/
theorem tab_find (s : ByteArray) : (∃ j, Instr.findNow .string (.string s) tabE.toList 0 = some (some (j, .agg #[.int .i64 (cntK (wordK (bts s))).1, .int .i64 (cntK (wordK (bts s))).2])) ∧ knownK (wordK (bts s)) = true) ∨
    (Instr.findNow .string (.string s) tabE.toList 0 = some none ∧ wordK (bts s) = 5) := by
  rcases MapKept.findNow_spec (d := .string) (k := .string s) (by trivial) tabE.toList 0 (by intro x hx; simp [tabE] at hx; rcases hx with rfl | rfl | rfl | rfl | rfl <;> trivial) with ⟨h1, h2⟩ | ⟨j, e, h1, h2, h3⟩
  · refine .inr ⟨h1, ?_⟩
    have k : ∀ b : ByteArray, (∃ x ∈ tabE.toList, x.key = .string b) → bts s ≠ bts b := by
      rintro b ⟨x, hx, he⟩ hb
      exact h2 x hx (by rw [he, bts_inj hb])
    have k0 : ¬ bts s = [106, 111, 105, 110, 116] := k ⟨#[106, 111, 105, 110, 116]⟩ ⟨tabE[0], by simp [tabE], rfl⟩
    have k1 : ¬ bts s = [108, 105, 109, 105, 116] := k ⟨#[108, 105, 109, 105, 116]⟩ ⟨tabE[1], by simp [tabE], rfl⟩
    have k2 : ¬ bts s = [109, 97, 115, 115] := k ⟨#[109, 97, 115, 115]⟩ ⟨tabE[2], by simp [tabE], rfl⟩
    have k3 : ¬ bts s = [115, 104, 97, 112, 101] := k ⟨#[115, 104, 97, 112, 101]⟩ ⟨tabE[3], by simp [tabE], rfl⟩
    have k4 : ¬ bts s = [115, 107, 105, 112] := k ⟨#[115, 107, 105, 112]⟩ ⟨tabE[4], by simp [tabE], rfl⟩
    unfold wordK
    rw [if_neg k0, if_neg k1, if_neg k2, if_neg k3, if_neg k4]
  · refine .inl ⟨0 + j, ?_⟩
    rw [h1]
    have hj : j < 5 := by rcases Nat.lt_or_ge j 5 with h | h; · exact h
                          · rw [List.getElem?_eq_none (by simpa [tabE] using h)] at h2; cases h2
    rcases (show j = 0 ∨ j = 1 ∨ j = 2 ∨ j = 3 ∨ j = 4 by omega) with rfl | rfl | rfl | rfl | rfl
    all_goals
      simp [tabE] at h2
      subst h2
      injection h3 with h3
      subst h3
      exact ⟨rfl, rfl⟩
theorem tab_look (s : ByteArray) {W : World} {B : Nat} (hM : W.heap[B]? = some (.map tabE 5)) : (Instr.lookup 142 (.map (some B)) (.string s) true).run Tryd.prog W = .ok (.tuple #[.agg #[.int .i64 (cntK (wordK (bts s))).1, .int .i64 (cntK (wordK (bts s))).2], .bool (knownK (wordK (bts s)))]) W := by
  rcases tab_find s with ⟨j, h1, h2⟩ | ⟨h1, h2⟩
  · rw [run_look hM h1, h2]
  · rw [run_miss hM h1, h2]; rfl
theorem cnt_small (k : Nat) : 0 ≤ (cntK k).1 ∧ (cntK k).1 ≤ 100 ∧ (cntK k).2 ≤ 100 ∧ -100 ≤ (cntK k).2 := by
  match k with
  | 0 => decide
  | 1 => decide
  | 2 => decide
  | 3 => decide
  | 4 => decide
  | k + 5 => exact ⟨Int.le_refl 0, by show (0 : Int) ≤ 100; decide, by show (0 : Int) ≤ 100; decide, by show (-100 : Int) ≤ 0; decide⟩
set_option linter.unusedSimpArgs false in
set_option linter.unusedVariables false in
set_option maxRecDepth 100000 in
set_option maxHeartbeats 6400000 in
theorem sArguments_any (s : ByteArray) (n : Int) (w : World) (n1 : -9223372036854775808 ≤ n) (n2 : n ≤ 9223372036854775807) :
    Calls Tryd.prog 79 #[ .string s, .int .i64 n ] w fun e w' => e = .returned (.bool (argsK (wordK (bts s)) n)) ∧ Below w.heap.size w w' := by
  obtain ⟨a1, a2, a3, a4⟩ := cnt_small (wordK (bts s))
  obtain ⟨r, hr⟩ : ∃ r, argsK (wordK (bts s)) n = r := ⟨_, rfl⟩
  have hA := (has_args (wordK (bts s)) n).trans hr
  rw [hr]
  clear hr
  go_enter Tryd.func79, Tryd.ntmps79
  go_wp2_with fail
  refine (table_any _).mono ?_
  rintro e w1 ⟨rfl, hM, hB⟩
  have hL := tab_look s hM
  clear hM
  generalize wordK (bts s) = k at a1 a2 a3 a4 hA hL
  obtain ⟨lo, hlo⟩ : ∃ x, (cntK k).1 = x := ⟨_, rfl⟩
  obtain ⟨hi, hhi⟩ : ∃ x, (cntK k).2 = x := ⟨_, rfl⟩
  rw [hlo] at a1 a2 hA hL
  rw [hhi] at a3 a4 hA hL
  clear hlo hhi
  cases hk : knownK k with
  | true =>
    rw [hk] at hA hL
    rw [Bool.true_and] at hA
    subst hA
    clear hk
    go_wp2_with fail
    refine (has_any lo hi n _ a1 a2 a3 n1 n2).mono ?_
    rintro e w2 ⟨rfl, hB2⟩
    go_wp2_with fail
    go_ret
    exact ⟨rfl, (hB.alloc hB.size _).trans (hB2.mono (by have := hB.size; simp; omega))⟩
  | false =>
    rw [hk] at hA hL
    rw [Bool.false_and] at hA
    subst hA
    clear hk
    go_wp2_with fail
    go_ret
    exact ⟨rfl, hB.alloc hB.size _⟩
/-- The error of a statement that has i before it. -/
def faultK (i : Nat) (g : St) : Int := if 256 ≤ i then 703 else if knownK (wordK (bts g.word)) = false then 701 else if argsK (wordK (bts g.word)) g.args.length = false then 702 else 0
end Go.Proofs.YtpaiapcnoifpmaaDoor
