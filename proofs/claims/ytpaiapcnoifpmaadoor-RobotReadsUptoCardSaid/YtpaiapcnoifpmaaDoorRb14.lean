/- Proved: the helper reads of the statements of layer 8 returns true, over the contract of the developers' Read. Conditions: as each theorem states. -/
import Derived.Test.YtpaiapcnoifpmaaDoorRc10
import Derived.Test.YtpaiapcnoifpmaaDoorRb13
namespace Go.Proofs.YtpaiapcnoifpmaaDoor
open Go.RowKit

set_option linter.unusedSimpArgs false in
set_option linter.unusedVariables false in
set_option maxRecDepth 100000 in
set_option maxHeartbeats 6400000 in
theorem reads8_any (u : Value) (l : List St) (w : World) (hT : KindT w) (hu : RdS w u l) (hs : ∀ s ∈ l, ∀ a ∈ s.args, a.size ≤ maxLen) (hn0 : l.length ≤ 1000000000000) :
    Calls Tryd.prog 17 #[ u ] w fun e w' => e = .returned (.bool true) ∧ Below w.heap.size w w' := by
  have HU := Lib.hid hu
  have HS := Lib.hid hs
  obtain ⟨A, c, rfl, _, _⟩ := hu
  clear hs
  go_enter Tryd.func17, Tryd.ntmps17
  go_wp2_with fail
  refine (sRead_any _ l _ hT HU.out HS.out hn0).mono ?_
  rintro e w1 ⟨vj, vm, rfl, hd1, hb1⟩
  obtain ⟨RES, hRES⟩ : ∃ R, readR [] [] l = R := ⟨_, rfl⟩
  have HRES := Lib.hid hRES
  rw [hRES] at hd1 ⊢
  clear hRES
  obtain ⟨Aj, cj, rfl, _, _⟩ := hd1.rj.joint
  obtain ⟨Am, cm, rfl, _, _⟩ := hd1.rm.mass
  have HD1 := Lib.hid hd1
  have B1 := Lib.hid hb1
  clear hd1 hb1
  go_wp2_with fail
  obtain ⟨V, hV⟩ : ∃ V, (w1.alloc (.cells #[.slice Aj RES.1.1.length cj, .slice Am RES.1.2.length cm] 25)).alloc (.cells #[.int .i64 RES.2.1, .int .i64 RES.2.2] 48) = V := ⟨_, rfl⟩
  have hB2 : Below w1.heap.size w1 V := by rw [← hV]; exact bl_alloc (bl_alloc (Below.refl _ _) _) _
  have hR2 : RobAt V w1.heap.size (.slice Aj RES.1.1.length cj) (.slice Am RES.1.2.length cm) := by rw [← hV]; exact (Below.heap_alloc _ _ _ (by simp)).trans (heap_alloc_new _ _)
  have hE2 : SrcErr V (w1.heap.size + 1) RES.2.1 RES.2.2 := by rw [← hV]; have h := heap_alloc_new (w1.alloc (.cells #[.slice Aj RES.1.1.length cj, .slice Am RES.1.2.length cm] 25)) (.cells #[.int .i64 RES.2.1, .int .i64 RES.2.2] 48); simpa [SrcErr] using h
  rw [hV]
  clear hV
  have B2 := Lib.hid (bl_next hB2 B1.out)
  have R2 := Lib.hid hR2
  have E2 := Lib.hid hE2
  have D2 := Lib.hid (HD1.out.below hB2 (Nat.le_refl _))
  clear hB2 hR2 hE2 HD1 B1
  refine (rReadRobot_any _ l _ (HU.out.below B2.out (Nat.le_refl _)) HS.out hn0).mono ?_
  rintro e w3 ⟨vj3, vm3, rfl, hd3, hb3⟩
  rw [HRES.out] at hd3 ⊢
  obtain ⟨Bj, dj, rfl, _, _⟩ := hd3.rj.joint
  obtain ⟨Bm, dm, rfl, _, _⟩ := hd3.rm.mass
  have R3 := Lib.hid (R2.out.below hb3 R2.out.lt')
  have E3 := Lib.hid (show SrcErr w3 (w1.heap.size + 1) RES.2.1 RES.2.2 from (hb3.block _ E2.out.lt).trans E2.out)
  have D3 := Lib.hid (D2.out.below hb3 (Nat.le_refl _))
  have F3 := Lib.hid hd3
  have B3 := Lib.hid (bl_next hb3 B2.out)
  clear hd3 hb3 R2 E2 D2 B2
  have r0 := R3.out.c0
  have r1 := R3.out.c1
  have e0 : w3.cell? ⟨w1.heap.size + 1, 0, none⟩ = some (.int .i64 RES.2.1) := cell_of_row w3 _ 0 _ _ _ E3.out
  have e1 : w3.cell? ⟨w1.heap.size + 1, 1, none⟩ = some (.int .i64 RES.2.2) := cell_of_row w3 _ 1 _ _ _ E3.out
  have hq := R3.out.lt'
  have hq2 := E3.out.lt
  obtain ⟨er, her⟩ : ∃ x, RES.2.1 = x := ⟨_, rfl⟩
  obtain ⟨ln, hln⟩ : ∃ x, RES.2.2 = x := ⟨_, rfl⟩
  rw [her] at e0
  rw [hln] at e1
  rw [her, hln]
  have HER := Lib.hid her
  have HLN := Lib.hid hln
  clear her hln
  have hB4 := (((Below.refl w3.heap.size w3).alloc (Nat.le_refl _) (.cells #[.slice Bj RES.1.1.length dj, .slice Bm RES.1.2.length dm] 25)).alloc (by simp) (.cells #[.int .i64 er, .int .i64 ln] 48))
  have B4 := Lib.hid hB4
  clear hB4
  go_wp2_with fail
  refine (sameRobot_any _ _ _ _ RES.1.1 RES.1.2 _ (D3.out.below B4.out (Nat.le_refl _)) (F3.out.below B4.out (Nat.le_refl _))).mono ?_
  rintro e w5 ⟨rfl, hb5⟩
  have hz := hb5.size
  have E5 : SrcErr w5 (w1.heap.size + 1) er ln := by
    rw [← HER.out, ← HLN.out]
    exact (hb5.block _ (by simp; omega)).trans ((B4.out.block _ hq2).trans E3.out)
  have G5 : SrcErr w5 (w3.heap.size + 1) er ln := by
    have h := heap_alloc_new (w3.alloc (.cells #[.slice Bj RES.1.1.length dj, .slice Bm RES.1.2.length dm] 25)) (.cells #[.int .i64 er, .int .i64 ln] 48)
    exact (hb5.block _ (by simp)).trans (by simpa [SrcErr] using h)
  have f0 : w5.cell? ⟨w1.heap.size + 1, 0, none⟩ = some (.int .i64 er) := cell_of_row w5 _ 0 _ _ _ E5
  have f1 : w5.cell? ⟨w1.heap.size + 1, 1, none⟩ = some (.int .i64 ln) := cell_of_row w5 _ 1 _ _ _ E5
  have g0 : w5.cell? ⟨w3.heap.size + 1, 0, none⟩ = some (.int .i64 er) := cell_of_row w5 _ 0 _ _ _ G5
  have g1 : w5.cell? ⟨w3.heap.size + 1, 1, none⟩ = some (.int .i64 ln) := cell_of_row w5 _ 1 _ _ _ G5
  have HB := Lib.hid (bl_next hb5 (bl_next B4.out B3.out))
  clear hb5 E5 G5 r0 r1 e0 e1
  go_wp2_with fail
  go_ret
  exact ⟨rfl, HB.out⟩
end Go.Proofs.YtpaiapcnoifpmaaDoor
