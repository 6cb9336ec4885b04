/- Proved: statements of layer 3 return true: chord, rises. Conditions: the arguments are of their types. -/
import Derived.Test.YtfoffkhmeeibhaaAngL0
namespace Go.Proofs.Ytfoffkhmeeibhaa
open Go.RowKit

set_option maxHeartbeats 3200000 in
theorem AngleChord_any (x : Int) (w : World) (x1 : -9223372036854775808 ≤ x) (x2 : x ≤ 9223372036854775807) :
    Calls Try.prog 11 #[ .int .i64 x ] w fun e w' => e = .returned (.bool true) ∧ Below w.heap.size w w' := by
  obtain ⟨r, hr⟩ : ∃ r, x % 16385 = r := ⟨_, rfl⟩
  have r0 : 0 ≤ r := by omega
  have r1 : r ≤ 16384 := by omega
  obtain ⟨e1, e2, e3⟩ := q_chord r0 r1
  obtain ⟨f1, f2, f3, f4⟩ := q_range r0 r1
  rw [← sin_q0 r0 r1] at e1 e2 e3 f1 f2 f3 f4
  go_enter Try.func11, Try.ntmps11
  go_wp2_with (first | (go_at_call 12; refine (Round_any _ _ _ (by decide) (by decide) (by omega) (by omega)).mono ?_; rintro e w' ⟨rfl, rfl⟩))
  refine (Sin_any _ _).mono ?_
  rintro e w1 ⟨rfl, hb1⟩
  obtain ⟨V, hV⟩ : ∃ V : World, V = w1.alloc (.cells #[.int .i64 (sinA r).lo, .int .i64 (sinA r).hi] 25) := ⟨_, rfl⟩
  have s := Lib.hid (show IvAt V w1.heap.size (sinA r) from by rw [hV]; exact IvAt.new _ _)
  have B := Lib.hid (show Below w.heap.size w V from by rw [hV]; exact below_alloc hb1 _)
  clear hb1
  go_wp2_with fail
  rw [← hV]
  clear hV
  refine (anAwake_any _).mono ?_
  rintro e w2 ⟨rfl, hb2⟩
  have s2 := s.out.below hb2
  have B2 := Lib.hid (below_next hb2 B.out)
  have c0 := s2.c0
  have c1 := s2.c1
  clear hb2 s2
  go_wp2_with fail
  go_ret
  exact ⟨rfl, B2.out⟩
set_option maxHeartbeats 3200000 in
theorem AngleRises_any (x : Int) (w : World) (x1 : -9223372036854775808 ≤ x) (x2 : x ≤ 9223372036854775807) :
    Calls Try.prog 7 #[ .int .i64 x ] w fun e w' => e = .returned (.bool true) ∧ Below w.heap.size w w' := by
  obtain ⟨r, hr⟩ : ∃ r, x % 16384 = r := ⟨_, rfl⟩
  have r0 : 0 ≤ r := by omega
  have r1 : r < 16384 := by omega
  obtain ⟨e1, e2⟩ := sin_rises r0 r1
  obtain ⟨e3, e4⟩ := cos_falls r0 r1
  go_enter Try.func7, Try.ntmps7
  go_wp2_with (first | (go_at_call 12; refine (Round_any _ _ _ (by decide) (by decide) (by omega) (by omega)).mono ?_; rintro e w' ⟨rfl, rfl⟩))
  refine (Sin_any _ _).mono ?_
  rintro e w1 ⟨rfl, hb1⟩
  go_wp2_with fail
  refine (Sin_any _ _).mono ?_
  rintro e w2 ⟨rfl, hb2⟩
  obtain ⟨V, hV⟩ : ∃ V : World, V = (w2.alloc (.cells #[.int .i64 (sinA r).lo, .int .i64 (sinA r).hi] 25)).alloc (.cells #[.int .i64 (sinA (r + 1)).lo, .int .i64 (sinA (r + 1)).hi] 25) := ⟨_, rfl⟩
  have s1 := Lib.hid (show IvAt V w2.heap.size (sinA r) from by rw [hV]; exact (IvAt.new _ _).alloc _)
  have s2 := Lib.hid (show IvAt V (w2.heap.size + 1) (sinA (r + 1)) from by rw [hV]; exact IvAt.at_new (by simp))
  have B := Lib.hid (show Below w.heap.size w V from by rw [hV]; exact below_alloc (below_alloc (below_next hb2 hb1) _) _)
  clear hb1 hb2
  go_wp2_with fail
  rw [← hV]
  clear hV
  generalize w2.heap.size = n at *
  refine (Cos_any _ _).mono ?_
  rintro e w3 ⟨rfl, hb3⟩
  go_wp2_with fail
  refine (Cos_any _ _).mono ?_
  rintro e w4 ⟨rfl, hb4⟩
  have hb := below_next hb4 hb3
  obtain ⟨V2, hV⟩ : ∃ V2 : World, V2 = (w4.alloc (.cells #[.int .i64 (cosA r).lo, .int .i64 (cosA r).hi] 25)).alloc (.cells #[.int .i64 (cosA (r + 1)).lo, .int .i64 (cosA (r + 1)).hi] 25) := ⟨_, rfl⟩
  have t1 := Lib.hid (show IvAt V2 n (sinA r) from by rw [hV]; exact ((s1.out.below hb).alloc _).alloc _)
  have t2 := Lib.hid (show IvAt V2 (n + 1) (sinA (r + 1)) from by rw [hV]; exact ((s2.out.below hb).alloc _).alloc _)
  have t3 := Lib.hid (show IvAt V2 w4.heap.size (cosA r) from by rw [hV]; exact (IvAt.new _ _).alloc _)
  have t4 := Lib.hid (show IvAt V2 (w4.heap.size + 1) (cosA (r + 1)) from by rw [hV]; exact IvAt.at_new (by simp))
  have B2 := Lib.hid (show Below w.heap.size w V2 from by rw [hV]; exact below_alloc (below_alloc (below_next hb B.out) _) _)
  clear hb hb3 hb4 s1 s2 B
  go_wp2_with fail
  rw [← hV]
  clear hV
  generalize w4.heap.size = m at *
  refine (anAwake_any _).mono ?_
  rintro e w5 ⟨rfl, hb⟩
  have B3 := Lib.hid (below_next hb B2.out)
  have c1 := (t1.out.below hb).c0
  have c2 := (t1.out.below hb).c1
  have c3 := (t2.out.below hb).c0
  have c4 := (t2.out.below hb).c1
  have c5 := (t3.out.below hb).c0
  have c6 := (t3.out.below hb).c1
  have c7 := (t4.out.below hb).c0
  have c8 := (t4.out.below hb).c1
  clear hb t1 t2 t3 t4 B2
  go_wp2_with fail
  go_ret
  exact ⟨rfl, B3.out⟩
end Go.Proofs.Ytfoffkhmeeibhaa
