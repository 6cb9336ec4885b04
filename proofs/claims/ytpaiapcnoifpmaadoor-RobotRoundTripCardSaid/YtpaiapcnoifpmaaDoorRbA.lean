/- Proved: the sanity check of the statements of layer 8 returns true, over the contracts of the developers' functions. Conditions: as each theorem states. -/
import Derived.Test.YtpaiapcnoifpmaaDoorRc10
import Derived.Test.YtpaiapcnoifpmaaDoorRc4
import Derived.Test.YtpaiapcnoifpmaaDoorRb13
import Derived.Test.YtpaiapcnoifpmaaDoorSy19
namespace Go.Proofs.YtpaiapcnoifpmaaDoor
open Go.RowKit

def j8 : JointD := ⟨⟨#[98, 97, 115, 101]⟩, 3, -1, 0, 0, 0, -16384, 16384, 1, 65536, 65536, 65536⟩
def s8 : St := ⟨1, ⟨#[106, 111, 105, 110, 116]⟩, [⟨#[98, 97, 115, 101]⟩, ⟨#[116, 117, 114, 110, 122]⟩, ⟨#[119, 111, 114, 108, 100]⟩, ⟨#[48]⟩, ⟨#[48]⟩, ⟨#[48]⟩, ⟨#[45, 48, 46, 50, 53]⟩, ⟨#[48, 46, 50, 53]⟩, ⟨#[49]⟩]⟩
theorem read8 : readR [] [] [s8] = (([j8], []), 0, 0) := by kernel_rfl
theorem check8 : checkR [j8] [] = 0 := by kernel_rfl
theorem find8 : findK [j8] ⟨#[98, 97, 115, 101]⟩ = 0 := by kernel_rfl
theorem rob8 {W : World} {B : Nat} {v : Value} (h : W.ownsRow B 60 12 v 1 (jointC j8).toList) : RobD W v (.slice none 0 0) [j8] [] := by
  refine ⟨own_rdO h, ⟨none, 0, rfl, Nat.le_refl _, fun j hj => absurd hj (by simp)⟩, by decide, by decide, fun k hk => ?_, fun k hk => absurd hk (by simp)⟩
  have : k = 0 := by simp at hk; omega
  subst this
  have e : [j8][0] = j8 := rfl
  rw [e]
  clear e hk h
  refine ⟨?_, ?_, ?_, ?_, ?_, ?_, ?_, ?_, ?_, ?_, ?_⟩ <;> (unfold I64 j8; constructor <;> simp only <;> omega)
set_option linter.unusedSimpArgs false in
set_option linter.unusedVariables false in
set_option maxRecDepth 100000 in
set_option maxHeartbeats 6400000 in
theorem one8_any (w : World) : Calls Tryd.prog 30 #[ ] w fun e w' => ∃ vj, e = .returned (.agg #[vj, .slice none 0 0]) ∧ RobD w' vj (.slice none 0 0) [j8] [] ∧ Below w.heap.size w w' := by
  go_enter Tryd.func30, Tryd.ntmps30
  go_wp2_with fail
  have ho : ((w.alloc (.cells #[.slice (some ⟨w.heap.size + 1, 0, none⟩) 1 1, .slice none 0 0] 25)).alloc (.cells (jointC j8) 60)).ownsRow 0 60 12 (.slice (some ⟨w.heap.size + 1, 0, none⟩) 1 1) 1 (jointC j8).toList := by
    have h := own_lit (w.alloc (.cells #[.slice (some ⟨w.heap.size + 1, 0, none⟩) 1 1, .slice none 0 0] 25)) 0 60 (jointC j8) 12 1 rfl (Nat.zero_le _) (by decide)
    simpa using h
  refine bodyPost_ret (v := .agg #[.slice (some ⟨w.heap.size + 1, 0, none⟩) 1 1, .slice none 0 0]) (results_cell_row rfl _ _ (w.heap.size) 25 _ (0, 0) _ rfl ((Below.heap_alloc _ _ _ (by simp)).trans (heap_alloc_new _ _)) under_rob rfl info_rob) rfl ⟨_, rfl, rob8 ho, bl_alloc (bl_alloc (Below.refl _ _) _) _⟩
theorem list8 (w : World) : RdS ((w.alloc (.cells #[.string ⟨#[98, 97, 115, 101]⟩, .string ⟨#[116, 117, 114, 110, 122]⟩, .string ⟨#[119, 111, 114, 108, 100]⟩, .string ⟨#[48]⟩, .string ⟨#[48]⟩, .string ⟨#[48]⟩, .string ⟨#[45, 48, 46, 50, 53]⟩, .string ⟨#[48, 46, 50, 53]⟩, .string ⟨#[49]⟩] 9)).alloc (.cells #[.int .i64 1, .string ⟨#[106, 111, 105, 110, 116]⟩, .slice (some ⟨w.heap.size, 0, none⟩) 9 9] 43)) (.slice (some ⟨w.heap.size + 1, 0, none⟩) 1 1) [s8] := by
  have ho := own_lit w 0 9 #[.string ⟨#[98, 97, 115, 101]⟩, .string ⟨#[116, 117, 114, 110, 122]⟩, .string ⟨#[119, 111, 114, 108, 100]⟩, .string ⟨#[48]⟩, .string ⟨#[48]⟩, .string ⟨#[48]⟩, .string ⟨#[45, 48, 46, 50, 53]⟩, .string ⟨#[48, 46, 50, 53]⟩, .string ⟨#[49]⟩] 1 9 rfl (Nat.zero_le _) (by decide)
  have hr : RdT (w.alloc (.cells #[.string ⟨#[98, 97, 115, 101]⟩, .string ⟨#[116, 117, 114, 110, 122]⟩, .string ⟨#[119, 111, 114, 108, 100]⟩, .string ⟨#[48]⟩, .string ⟨#[48]⟩, .string ⟨#[48]⟩, .string ⟨#[45, 48, 46, 50, 53]⟩, .string ⟨#[48, 46, 50, 53]⟩, .string ⟨#[49]⟩] 9)) (.slice (some ⟨w.heap.size, 0, none⟩) 9 9) s8.args := OwnT.rd (B := 0) ho (by decide)
  have hn := heap_alloc_new (w.alloc (.cells #[.string ⟨#[98, 97, 115, 101]⟩, .string ⟨#[116, 117, 114, 110, 122]⟩, .string ⟨#[119, 111, 114, 108, 100]⟩, .string ⟨#[48]⟩, .string ⟨#[48]⟩, .string ⟨#[48]⟩, .string ⟨#[45, 48, 46, 50, 53]⟩, .string ⟨#[48, 46, 50, 53]⟩, .string ⟨#[49]⟩] 9)) (.cells #[.int .i64 1, .string ⟨#[106, 111, 105, 110, 116]⟩, .slice (some ⟨w.heap.size, 0, none⟩) 9 9] 43)
  have hs : (w.alloc (.cells #[.string ⟨#[98, 97, 115, 101]⟩, .string ⟨#[116, 117, 114, 110, 122]⟩, .string ⟨#[119, 111, 114, 108, 100]⟩, .string ⟨#[48]⟩, .string ⟨#[48]⟩, .string ⟨#[48]⟩, .string ⟨#[45, 48, 46, 50, 53]⟩, .string ⟨#[48, 46, 50, 53]⟩, .string ⟨#[49]⟩] 9)).heap.size = w.heap.size + 1 := by simp
  rw [hs] at hn
  refine ⟨some ⟨w.heap.size + 1, 0, none⟩, 1, rfl, ⟨by decide, by decide⟩, fun k hk => ?_⟩
  have : k = 0 := by simp at hk; omega
  subst this
  exact ⟨w.heap.size + 1, 0, .slice (some ⟨w.heap.size, 0, none⟩) 9 9, rfl, by simp, cell_of_row _ _ 0 _ _ _ hn, cell_of_row _ _ 1 _ _ _ hn, cell_of_row _ _ 2 _ _ _ hn, hr.below ((Below.refl _ _).alloc (Nat.le_refl _) _) (Nat.le_refl _)⟩
set_option linter.unusedSimpArgs false in
set_option linter.unusedVariables false in
set_option maxRecDepth 100000 in
set_option maxHeartbeats 6400000 in
theorem awake8_any (w : World) (hT : KindT w) : Calls Tryd.prog 11 #[ ] w fun e w' => e = .returned (.bool true) ∧ Below w.heap.size w w' := by
  have HL := Lib.hid (list8 w)
  go_enter Tryd.func11, Tryd.ntmps11
  go_wp2_with fail
  refine (sRead_any _ [s8] _ (hT.next (bl_alloc (bl_alloc (Below.refl _ _) _) _)) HL.out (by intro s hs a ha; simp at hs; subst hs; simp [s8] at ha; rcases ha with rfl | rfl | rfl | rfl | rfl | rfl | rfl <;> decide) (by decide)).mono ?_
  rintro e w1 ⟨vj, vm, rfl, hd, hb⟩
  rw [read8] at hd ⊢
  have hb0 : Below w.heap.size w w1 := bl_next hb (bl_alloc (bl_alloc (Below.refl _ _) _) _)
  obtain ⟨Aj, cj, rfl, _, _⟩ := hd.rj.joint
  obtain ⟨Am, cm, rfl, _, _⟩ := hd.rm.mass
  have B1 := Lib.hid hb0
  have D1 := Lib.hid hd
  clear hb hb0 hd
  go_wp2_with fail
  obtain ⟨V, hV⟩ : ∃ V, (w1.alloc (.cells #[.slice Aj [j8].length cj, .slice Am ([] : List MassD).length cm] 25)).alloc (.cells #[.int .i64 0, .int .i64 0] 48) = V := ⟨_, rfl⟩
  have hR2 : RobAt V w1.heap.size (.slice Aj 1 cj) (.slice Am 0 cm) := by rw [← hV]; exact (Below.heap_alloc _ _ _ (by simp)).trans (heap_alloc_new _ _)
  have hE2 : SrcErr V (w1.heap.size + 1) 0 0 := by rw [← hV]; have h := heap_alloc_new (w1.alloc (.cells #[.slice Aj [j8].length cj, .slice Am ([] : List MassD).length cm] 25)) (.cells #[.int .i64 0, .int .i64 0] 48); simpa [SrcErr] using h
  have hB2 : Below w1.heap.size w1 V := by rw [← hV]; exact bl_alloc (bl_alloc (Below.refl _ _) _) _
  have D := Lib.hid (D1.out.below hB2 (Nat.le_refl _))
  have B2 := Lib.hid (bl_next hB2 B1.out)
  simp only [List.length_cons, List.length_nil, Nat.zero_add] at hV D
  rw [hV]
  have R2 := Lib.hid hR2
  have E2 := Lib.hid hE2
  have hq := hR2.lt'
  have hq2 := hE2.lt
  clear hV hR2 hE2 hB2 D1 B1
  have HD := Lib.hid (show ∀ W' : World, Below V.heap.size V W' → (fun w' : World => w'.cell? ⟨w1.heap.size, 0, none⟩ = some (.slice Aj 1 cj) ∧ w'.cell? ⟨w1.heap.size, 1, none⟩ = some (.slice Am 0 cm) ∧ w'.cell? ⟨w1.heap.size + 1, 0, none⟩ = some (.int .i64 0) ∧ Below V.heap.size V w') W' from fun W' h => ⟨(h.cell (p := ⟨w1.heap.size, 0, none⟩) hq).trans R2.out.c0, (h.cell (p := ⟨w1.heap.size, 1, none⟩) hq).trans R2.out.c1, (h.cell (p := ⟨w1.heap.size + 1, 0, none⟩) hq2).trans (cell_of_row V _ 0 _ _ _ E2.out), h⟩)
  refine wp_region_held_drew (S := (fun w' : World => w'.cell? ⟨w1.heap.size, 0, none⟩ = some (.slice Aj 1 cj) ∧ w'.cell? ⟨w1.heap.size, 1, none⟩ = some (.slice Am 0 cm) ∧ w'.cell? ⟨w1.heap.size + 1, 0, none⟩ = some (.int .i64 0) ∧ Below V.heap.size V w')) (by kernel_rfl) ?_ (fun hHeld => ?_)
  focus (refine HD.out _ ?_; repeat (first | exact hHeld.2.2.2 | exact Below.refl _ _ | refine Below.drew ?_ | refine bl_next hb15 ?_ | refine bl_next hb14 ?_ | refine bl_next hb11 ?_ | refine bl_next hb10 ?_ | refine bl_next hb1 ?_ | refine bl_next hb0 ?_))
  refine wpAnyH_ready (rs := [0]) (by kernel_rfl) (by simp) (AllReadyH.cons rfl (fun K hK => ?_) AllReadyH.nil); go_simp; (refine (one8_any _).mono ?_; rintro e w0 ⟨v0, rfl, hd0, hb0⟩); go_wp2_with fail; refine hK.out _ _ ?_ (fun hHeld => ?_); (focus (refine HD.out _ ?_; repeat (first | exact hHeld.2.2.2 | exact Below.refl _ _ | refine Below.drew ?_ | refine bl_next hb15 ?_ | refine bl_next hb14 ?_ | refine bl_next hb11 ?_ | refine bl_next hb10 ?_ | refine bl_next hb1 ?_ | refine bl_next hb0 ?_))); clear hK K; (try simp only [Act.put, List.getElem_toArray, List.getElem_cons_succ, List.getElem_cons_zero, List.setIfInBounds_toArray, List.set_cons_zero, List.set_cons_succ])
  refine wpAnyH_ready (rs := [1]) (by kernel_rfl) (by simp) (AllReadyH.cons rfl (fun K hK => ?_) AllReadyH.nil); go_simp; (refine (sCheck_any [j8] [] _ _ _ hd0).mono ?_; rintro e w1 ⟨rfl, hb1⟩; rw [check8]); go_wp2_with fail; refine hK.out _ _ ?_ (fun hHeld => ?_); (focus (refine HD.out _ ?_; repeat (first | exact hHeld.2.2.2 | exact Below.refl _ _ | refine Below.drew ?_ | refine bl_next hb15 ?_ | refine bl_next hb14 ?_ | refine bl_next hb11 ?_ | refine bl_next hb10 ?_ | refine bl_next hb1 ?_ | refine bl_next hb0 ?_))); clear hK K; (try simp only [Act.put, List.getElem_toArray, List.getElem_cons_succ, List.getElem_cons_zero, List.setIfInBounds_toArray, List.set_cons_zero, List.set_cons_succ])
  refine wpAnyH_take (i := 2) (v := ?_) rfl (by kernel_rfl) (by kernel_rfl) (by kernel_rfl) (fun _ _ _ h => h) (Or.inl ⟨by rfl, ?_⟩) (by assumption) ?_; rotate_left; (focus (intro w hSw; (try dsimp only at hSw); go_simp; try with_reducible rfl)); (try simp only [Act.put, List.getElem_toArray, List.getElem_cons_succ, List.getElem_cons_zero, List.setIfInBounds_toArray, List.set_cons_zero, List.set_cons_succ])
  refine wpAnyH_take (i := 3) (v := ?_) rfl (by kernel_rfl) (by kernel_rfl) (by kernel_rfl) (fun _ _ _ h => h) (Or.inl ⟨by rfl, ?_⟩) (by assumption) ?_; rotate_left; (focus (intro w hSw; (try dsimp only at hSw); go_simp; try with_reducible rfl)); (try simp only [Act.put, List.getElem_toArray, List.getElem_cons_succ, List.getElem_cons_zero, List.setIfInBounds_toArray, List.set_cons_zero, List.set_cons_succ])
  refine wpAnyH_take (i := 4) (v := ?_) rfl (by kernel_rfl) (by kernel_rfl) (by kernel_rfl) (fun _ _ _ h => h) (Or.inl ⟨by rfl, ?_⟩) (by assumption) ?_; rotate_left; (focus (intro w hSw; (try dsimp only at hSw); go_simp; try with_reducible rfl)); (try simp only [Act.put, List.getElem_toArray, List.getElem_cons_succ, List.getElem_cons_zero, List.setIfInBounds_toArray, List.set_cons_zero, List.set_cons_succ])
  refine wpAnyH_take (i := 5) (v := ?_) rfl (by kernel_rfl) (by kernel_rfl) (by kernel_rfl) (fun _ _ _ h => h) (Or.inl ⟨by rfl, ?_⟩) (by assumption) ?_; rotate_left; (focus (intro w hSw; (try dsimp only at hSw); go_simp; try with_reducible rfl)); (try simp only [Act.put, List.getElem_toArray, List.getElem_cons_succ, List.getElem_cons_zero, List.setIfInBounds_toArray, List.set_cons_zero, List.set_cons_succ])
  refine wpAnyH_take (i := 6) (v := ?_) rfl (by kernel_rfl) (by kernel_rfl) (by kernel_rfl) (fun _ _ _ h => h) (Or.inl ⟨by rfl, ?_⟩) (by assumption) ?_; rotate_left; (focus (intro w hSw; (try dsimp only at hSw); go_simp; try with_reducible rfl)); (try simp only [Act.put, List.getElem_toArray, List.getElem_cons_succ, List.getElem_cons_zero, List.setIfInBounds_toArray, List.set_cons_zero, List.set_cons_succ])
  refine wpAnyH_take (i := 7) (v := ?_) rfl (by kernel_rfl) (by kernel_rfl) (by kernel_rfl) (fun _ _ _ h => h) (Or.inl ⟨by rfl, ?_⟩) (by assumption) ?_; rotate_left; (focus (intro w hSw; (try dsimp only at hSw); go_simp; try with_reducible rfl)); (try simp only [Act.put, List.getElem_toArray, List.getElem_cons_succ, List.getElem_cons_zero, List.setIfInBounds_toArray, List.set_cons_zero, List.set_cons_succ])
  refine wpAnyH_take (i := 8) (v := ?_) rfl (by kernel_rfl) (by kernel_rfl) (by kernel_rfl) (fun _ _ _ h => h) (Or.inl ⟨by rfl, ?_⟩) (by assumption) ?_; rotate_left; (focus (intro w hSw; (try dsimp only at hSw); go_simp; try with_reducible rfl)); (try simp only [Act.put, List.getElem_toArray, List.getElem_cons_succ, List.getElem_cons_zero, List.setIfInBounds_toArray, List.set_cons_zero, List.set_cons_succ])
  refine wpAnyH_take (i := 9) (v := ?_) rfl (by kernel_rfl) (by kernel_rfl) (by kernel_rfl) (fun _ _ _ h => h) (Or.inl ⟨by rfl, ?_⟩) (by assumption) ?_; rotate_left; (focus (intro w hSw; (try dsimp only at hSw); go_simp; try with_reducible rfl)); (try simp only [Act.put, List.getElem_toArray, List.getElem_cons_succ, List.getElem_cons_zero, List.setIfInBounds_toArray, List.set_cons_zero, List.set_cons_succ])
  refine wpAnyH_ready (rs := [10]) (by kernel_rfl) (by simp) (AllReadyH.cons rfl (fun K hK => ?_) AllReadyH.nil); go_simp; (refine (one8_any _).mono ?_; rintro e w10 ⟨v10, rfl, hd10, hb10⟩); go_wp2_with fail; refine hK.out _ _ ?_ (fun hHeld => ?_); (focus (refine HD.out _ ?_; repeat (first | exact hHeld.2.2.2 | exact Below.refl _ _ | refine Below.drew ?_ | refine bl_next hb15 ?_ | refine bl_next hb14 ?_ | refine bl_next hb11 ?_ | refine bl_next hb10 ?_ | refine bl_next hb1 ?_ | refine bl_next hb0 ?_))); clear hK K; (try simp only [Act.put, List.getElem_toArray, List.getElem_cons_succ, List.getElem_cons_zero, List.setIfInBounds_toArray, List.set_cons_zero, List.set_cons_succ])
  refine wpAnyH_ready (rs := [11]) (by kernel_rfl) (by simp) (AllReadyH.cons rfl (fun K hK => ?_) AllReadyH.nil); go_simp; (refine (sameRobot_any _ _ _ _ [j8] [] _ (D.out.below hHeld.2.2.2 (Nat.le_refl _)) hd10).mono ?_; rintro e w11 ⟨rfl, hb11⟩); go_wp2_with fail; refine hK.out _ _ ?_ (fun hHeld => ?_); (focus (refine HD.out _ ?_; repeat (first | exact hHeld.2.2.2 | exact Below.refl _ _ | refine Below.drew ?_ | refine bl_next hb15 ?_ | refine bl_next hb14 ?_ | refine bl_next hb11 ?_ | refine bl_next hb10 ?_ | refine bl_next hb1 ?_ | refine bl_next hb0 ?_))); clear hK K; (try simp only [Act.put, List.getElem_toArray, List.getElem_cons_succ, List.getElem_cons_zero, List.setIfInBounds_toArray, List.set_cons_zero, List.set_cons_succ])
  refine wpAnyH_take (i := 12) (v := ?_) rfl (by kernel_rfl) (by kernel_rfl) (by kernel_rfl) (fun _ _ _ h => h) (Or.inl ⟨by rfl, ?_⟩) (by assumption) ?_; rotate_left; (focus (intro w hSw; (try dsimp only at hSw); go_simp; try with_reducible rfl)); (try simp only [Act.put, List.getElem_toArray, List.getElem_cons_succ, List.getElem_cons_zero, List.setIfInBounds_toArray, List.set_cons_zero, List.set_cons_succ])
  refine wpAnyH_take (i := 13) (v := ?_) rfl (by kernel_rfl) (by kernel_rfl) (by kernel_rfl) (fun _ _ _ h => h) (Or.inl ⟨by rfl, ?_⟩) (by assumption) ?_; rotate_left; (focus (intro w hSw; (try dsimp only at hSw); go_simp; try with_reducible rfl)); (try simp only [Act.put, List.getElem_toArray, List.getElem_cons_succ, List.getElem_cons_zero, List.setIfInBounds_toArray, List.set_cons_zero, List.set_cons_succ])
  refine wpAnyH_ready (rs := [14]) (by kernel_rfl) (by simp) (AllReadyH.cons rfl (fun K hK => ?_) AllReadyH.nil); go_simp; (refine (one8_any _).mono ?_; rintro e w14 ⟨v14, rfl, hd14, hb14⟩); go_wp2_with fail; refine hK.out _ _ ?_ (fun hHeld => ?_); (focus (refine HD.out _ ?_; repeat (first | exact hHeld.2.2.2 | exact Below.refl _ _ | refine Below.drew ?_ | refine bl_next hb15 ?_ | refine bl_next hb14 ?_ | refine bl_next hb11 ?_ | refine bl_next hb10 ?_ | refine bl_next hb1 ?_ | refine bl_next hb0 ?_))); clear hK K; (try simp only [Act.put, List.getElem_toArray, List.getElem_cons_succ, List.getElem_cons_zero, List.setIfInBounds_toArray, List.set_cons_zero, List.set_cons_succ])
  refine wpAnyH_ready (rs := [15]) (by kernel_rfl) (by simp) (AllReadyH.cons rfl (fun K hK => ?_) AllReadyH.nil); go_simp; (refine (sFind_any [j8] [] _ _ _ _ hd14).mono ?_; rintro e w15 ⟨rfl, hb15⟩; rw [find8]); go_wp2_with fail; refine hK.out _ _ ?_ (fun hHeld => ?_); (focus (refine HD.out _ ?_; repeat (first | exact hHeld.2.2.2 | exact Below.refl _ _ | refine Below.drew ?_ | refine bl_next hb15 ?_ | refine bl_next hb14 ?_ | refine bl_next hb11 ?_ | refine bl_next hb10 ?_ | refine bl_next hb1 ?_ | refine bl_next hb0 ?_))); clear hK K; (try simp only [Act.put, List.getElem_toArray, List.getElem_cons_succ, List.getElem_cons_zero, List.setIfInBounds_toArray, List.set_cons_zero, List.set_cons_succ])
  refine wpAnyH_take (i := 16) (v := ?_) rfl (by kernel_rfl) (by kernel_rfl) (by kernel_rfl) (fun _ _ _ h => h) (Or.inl ⟨by rfl, ?_⟩) (by assumption) ?_; rotate_left; (focus (intro w hSw; (try dsimp only at hSw); go_simp; try with_reducible rfl)); (try simp only [Act.put, List.getElem_toArray, List.getElem_cons_succ, List.getElem_cons_zero, List.setIfInBounds_toArray, List.set_cons_zero, List.set_cons_succ])
  refine wpAnyH_take (i := 17) (v := ?_) rfl (by kernel_rfl) (by kernel_rfl) (by kernel_rfl) (fun _ _ _ h => h) (Or.inl ⟨by rfl, ?_⟩) (by assumption) ?_; rotate_left; (focus (intro w hSw; (try dsimp only at hSw); go_simp; try with_reducible rfl)); (try simp only [Act.put, List.getElem_toArray, List.getElem_cons_succ, List.getElem_cons_zero, List.setIfInBounds_toArray, List.set_cons_zero, List.set_cons_succ])
  refine wpAnyH_take (i := 18) (v := ?_) rfl (by kernel_rfl) (by kernel_rfl) (by kernel_rfl) (fun _ _ _ h => h) (Or.inl ⟨by rfl, ?_⟩) (by assumption) ?_; rotate_left; (focus (intro w hSw; (try dsimp only at hSw); go_simp; try with_reducible rfl)); (try simp only [Act.put, List.getElem_toArray, List.getElem_cons_succ, List.getElem_cons_zero, List.setIfInBounds_toArray, List.set_cons_zero, List.set_cons_succ])
  refine wpAnyH_done (by kernel_rfl) ?_ _
  have HF := Lib.hid (bl_next hHeld.2.2.2 B2.out)
  clear hHeld
  go_wp2_with fail
  go_ret
  exact ⟨by simp, HF.out⟩
end Go.Proofs.YtpaiapcnoifpmaaDoor
