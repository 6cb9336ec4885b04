/- Proved: the developers' jointStatement. Conditions: as each theorem states. -/
import Derived.Test.YtpaiapcnoifpmaaDoorRe2
namespace Go.Proofs.YtpaiapcnoifpmaaDoor
open Go.RowKit

theorem kindT_at {w : World} (h : KindT w) (k : Nat) (hk : k < 7) : w.cell? ⟨0, k, none⟩ = some (.string (kindB k)) := by
  obtain ⟨h0, h1, h2, h3, h4, h5, h6⟩ := h
  rcases (show k = 0 ∨ k = 1 ∨ k = 2 ∨ k = 3 ∨ k = 4 ∨ k = 5 ∨ k = 6 by omega) with rfl | rfl | rfl | rfl | rfl | rfl | rfl
  · exact h0
  · exact h1
  · exact h2
  · exact h3
  · exact h4
  · exact h5
  · exact h6
/-- A joint's statement that was made. -/
def StJ (w : World) (xs : List ByteArray) (zs : List Int) (wt : Int) : Ending → World → Prop := fun e w' =>
  ∃ (va : Value) (bs : List ByteArray) (b : ByteArray), e = .returned (.agg #[.int .i64 0, .string ⟨#[106, 111, 105, 110, 116]⟩, va]) ∧ OwnT w.heap.size w' va (xs ++ bs ++ [b]) ∧ bs.length = zs.length ∧ (∀ k (h : k < bs.length) (h' : k < zs.length), numW bs[k] zs[k]) ∧ intW b wt ∧ Below w.heap.size w w'
set_option linter.unusedSimpArgs false in
set_option linter.unusedVariables false in
set_option maxRecDepth 100000 in
set_option maxHeartbeats 6400000 in
theorem jointSt_world (vj vm : Value) (nm : ByteArray) (k : Nat) (x y z lo hi wt sp ac tq : Int) (w : World) (hT : Pow10 w) (hK : KindT w) (hk : k < 7) (hz : ∀ u ∈ [x, y, z, lo, hi], -2147483648 ≤ u ∧ u ≤ 2147483648) (hw : 0 ≤ wt ∧ wt < 1000000000000000) :
    Calls Tryd.prog 47 #[ .agg #[vj, vm], .agg #[.string nm, .int .i64 k, .int .i64 (-1), .int .i64 x, .int .i64 y, .int .i64 z, .int .i64 lo, .int .i64 hi, .int .i64 wt, .int .i64 sp, .int .i64 ac, .int .i64 tq] ] w (StJ w [nm, kindB k, (⟨#[119, 111, 114, 108, 100]⟩ : ByteArray)] [x, y, z, lo, hi] wt) := by
  obtain ⟨kb, hkb⟩ : ∃ b, kindB k = b := ⟨_, rfl⟩
  have HKB := Lib.hid hkb
  rw [hkb]
  clear hkb
  have HT := Lib.hid hT
  have HK := Lib.hid hK
  have HR := Lib.hid hz
  have HW := Lib.hid hw
  have hb3 : Below w.heap.size w (((w.alloc (.cells #[vj, vm] 25)).alloc (.cells #[.string nm, .int .i64 k, .int .i64 (-1), .int .i64 x, .int .i64 y, .int .i64 z, .int .i64 lo, .int .i64 hi, .int .i64 wt, .int .i64 sp, .int .i64 ac, .int .i64 tq] 60)).alloc (.cells #[.int .i64 0, .string ⟨#[]⟩, .slice none 0 0] 43)) := (((Below.refl _ _).alloc (Nat.le_refl _) _).alloc (by simp) _).alloc (by simp; omega) _
  have J3 : JointAt (((w.alloc (.cells #[vj, vm] 25)).alloc (.cells #[.string nm, .int .i64 k, .int .i64 (-1), .int .i64 x, .int .i64 y, .int .i64 z, .int .i64 lo, .int .i64 hi, .int .i64 wt, .int .i64 sp, .int .i64 ac, .int .i64 tq] 60)).alloc (.cells #[.int .i64 0, .string ⟨#[]⟩, .slice none 0 0] 43)) (w.heap.size + 1) (⟨nm, k, -1, x, y, z, lo, hi, wt, sp, ac, tq⟩ : JointD) := (JointAt.at_new (V := w.alloc (.cells #[vj, vm] 25)) (j := (⟨nm, k, -1, x, y, z, lo, hi, wt, sp, ac, tq⟩ : JointD)) (by simp)).alloc _
  have BB3 := Lib.hid hb3
  have JJ3 := Lib.hid J3
  obtain ⟨d0, d1, d2, _⟩ := J3.all
  clear hT hK hz hw hb3 J3
  unfold StJ
  go_enter Tryd.func47, Tryd.ntmps47
  go_wp2_with fail
  clear d0 d1 d2
  obtain ⟨V, hV⟩ : ∃ V, (((w.alloc (.cells #[vj, vm] 25)).alloc (.cells #[.string nm, .int .i64 k, .int .i64 (-1), .int .i64 x, .int .i64 y, .int .i64 z, .int .i64 lo, .int .i64 hi, .int .i64 wt, .int .i64 sp, .int .i64 ac, .int .i64 tq] 60)).alloc (.cells #[.int .i64 0, .string ⟨#[]⟩, .slice none 0 0] 43)) = V := ⟨_, rfl⟩
  have hs : V.heap.size = w.heap.size + 1 + 1 + 1 := by rw [← hV]; simp
  have hS : StAtB V (w.heap.size + 1 + 1) := by rw [← hV]; exact StAtB.new (by simp)
  rw [hV] at BB3 JJ3 ⊢
  have HS := Lib.hid hS
  have HT2 : PowB V.heap.size V := HT.out.next BB3.out
  have KT := kindT_at (HK.out.next BB3.out) k hk
  obtain ⟨d0, d1, d2, _⟩ := JJ3.out.all
  have HL := Lib.hid (show ∀ W', Below V.heap.size V W' → (fun w1 : World => w1.cell? ⟨w.heap.size + 1, 0, none⟩ = some (.string nm) ∧ w1.cell? ⟨w.heap.size + 1, 1, none⟩ = some (.int .i64 k) ∧ w1.cell? ⟨0, k, none⟩ = some (.string kb) ∧ Below V.heap.size V w1) W' from fun W' hb => ⟨(hb.cell (p := ⟨w.heap.size + 1, 0, none⟩) (by dsimp only; omega)).trans d0, (hb.cell (p := ⟨w.heap.size + 1, 1, none⟩) (by dsimp only; omega)).trans d1, HKB.out ▸ kindT_at ((HK.out.next BB3.out).next hb) k hk, hb⟩)
  clear hV hS HT d0 d1 d2 KT
  refine wp_region_noPanic ?_
  refine wp_region_held_drew (S := (fun w1 : World => w1.cell? ⟨w.heap.size + 1, 0, none⟩ = some (.string nm) ∧ w1.cell? ⟨w.heap.size + 1, 1, none⟩ = some (.int .i64 k) ∧ w1.cell? ⟨0, k, none⟩ = some (.string kb) ∧ Below V.heap.size V w1)) (by kernel_rfl) ?_ (fun hHeld => ?_)
  focus (refine HL.out _ ?_; first | exact (Below.refl _ _).drew | exact (hHeld.2.2.2).drew | exact (((hHeld.2.2.2).alloc (hHeld.2.2.2).size _)).drew | exact ((Below.refl _ _).alloc (Nat.le_refl _) _).drew | exact (((Below.refl _ _).drew).alloc (by simp) _).drew)
  refine wpAnyH_take (i := 0) (v := ?_) rfl (by kernel_rfl) (by kernel_rfl) (by kernel_rfl) (fun _ _ _ h => h) (Or.inl ⟨by rfl, ?_⟩) (by assumption) ?_; rotate_left; (focus (intro w hSw; (try dsimp only at hSw); go_simp; try with_reducible rfl)); (try simp only [Act.put, List.getElem_toArray, List.getElem_cons_succ, List.getElem_cons_zero, List.setIfInBounds_toArray, List.set_cons_zero, List.set_cons_succ])
  refine wpAnyH_take (i := 1) (v := ?_) rfl (by kernel_rfl) (by kernel_rfl) (by kernel_rfl) (fun _ _ _ h => h) (Or.inl ⟨by rfl, ?_⟩) (by assumption) ?_; rotate_left; (focus (intro w hSw; (try dsimp only at hSw); go_simp; try with_reducible rfl)); (try simp only [Act.put, List.getElem_toArray, List.getElem_cons_succ, List.getElem_cons_zero, List.setIfInBounds_toArray, List.set_cons_zero, List.set_cons_succ])
  refine wpAnyH_take (i := 2) (v := ?_) rfl (by kernel_rfl) (by kernel_rfl) (by kernel_rfl) (fun _ _ _ h => h) (Or.inl ⟨by rfl, ?_⟩) (by assumption) ?_; rotate_left; (focus (intro w hSw; (try dsimp only at hSw); go_simp; try with_reducible rfl)); (try simp only [Act.put, List.getElem_toArray, List.getElem_cons_succ, List.getElem_cons_zero, List.setIfInBounds_toArray, List.set_cons_zero, List.set_cons_succ])
  refine wpAnyH_take (i := 3) (v := ?_) rfl (by kernel_rfl) (by kernel_rfl) (by kernel_rfl) (fun _ _ _ h => h) (Or.inl ⟨by rfl, ?_⟩) (by assumption) ?_; rotate_left; (focus (intro w hSw; (try dsimp only at hSw); go_simp; try with_reducible rfl)); (try simp only [Act.put, List.getElem_toArray, List.getElem_cons_succ, List.getElem_cons_zero, List.setIfInBounds_toArray, List.set_cons_zero, List.set_cons_succ])
  refine wpAnyH_take (i := 4) (v := .pointer (some ⟨0, k, none⟩)) rfl (by kernel_rfl) (by kernel_rfl) (by kernel_rfl) (fun _ _ _ h => h) (Or.inl ⟨by rfl, by intro w hSw; go_simp; exact fun h => absurd h (by omega)⟩) (by assumption) ?_; (try simp only [Act.put, List.getElem_toArray, List.getElem_cons_succ, List.getElem_cons_zero, List.setIfInBounds_toArray, List.set_cons_zero, List.set_cons_succ])
  refine wpAnyH_take (i := 5) (v := ?_) rfl (by kernel_rfl) (by kernel_rfl) (by kernel_rfl) (fun _ _ _ h => h) (Or.inl ⟨by rfl, ?_⟩) (by assumption) ?_; rotate_left; (focus (intro w hSw; (try dsimp only at hSw); go_simp; try with_reducible rfl)); (try simp only [Act.put, List.getElem_toArray, List.getElem_cons_succ, List.getElem_cons_zero, List.setIfInBounds_toArray, List.set_cons_zero, List.set_cons_succ])
  refine wpAnyH_take (i := 6) (v := ?_) rfl (by kernel_rfl) (by kernel_rfl) (by kernel_rfl) (fun _ _ _ h => h) (Or.inl ⟨by rfl, ?_⟩) (by assumption) ?_; rotate_left; (focus (intro w hSw; (try dsimp only at hSw); go_simp; try with_reducible rfl)); (try simp only [Act.put, List.getElem_toArray, List.getElem_cons_succ, List.getElem_cons_zero, List.setIfInBounds_toArray, List.set_cons_zero, List.set_cons_succ])
  refine wpAnyH_ready (rs := [7]) (by kernel_rfl) (by simp) (AllReadyH.cons rfl (fun K hK => ?_) AllReadyH.nil); go_simp; refine hK.out _ _ ?_ (fun hHeld => ?_); (focus (refine HL.out _ ?_; first | exact (Below.refl _ _).drew | exact (hHeld.2.2.2).drew | exact (((hHeld.2.2.2).alloc (hHeld.2.2.2).size _)).drew | exact ((Below.refl _ _).alloc (Nat.le_refl _) _).drew | exact (((Below.refl _ _).drew).alloc (by simp) _).drew)); clear hK K; (try simp only [Act.put, List.getElem_toArray, List.getElem_cons_succ, List.getElem_cons_zero, List.setIfInBounds_toArray, List.set_cons_zero, List.set_cons_succ])
  refine wpAnyH_take (i := 8) (v := ?_) rfl (by kernel_rfl) (by kernel_rfl) (by kernel_rfl) (fun _ _ _ h => h) (Or.inl ⟨by rfl, ?_⟩) (by assumption) ?_; rotate_left; (focus (intro w hSw; (try dsimp only at hSw); go_simp; try with_reducible rfl)); (try simp only [Act.put, List.getElem_toArray, List.getElem_cons_succ, List.getElem_cons_zero, List.setIfInBounds_toArray, List.set_cons_zero, List.set_cons_succ])
  refine wpAnyH_done (by kernel_rfl) ?_ _
  refine NoPanic.normal ?_
  have hb4 := (((Below.refl V.heap.size V).alloc (Nat.le_refl _) (.cells #[.string nm, .string kb, .string ⟨#[119, 111, 114, 108, 100]⟩] 9)).alloc (by simp) (.cells #[.int .i64 x, .int .i64 y, .int .i64 z, .int .i64 lo, .int .i64 hi] 2)).drew
  have hsz1 : (V.alloc (.cells #[.string nm, .string kb, .string ⟨#[119, 111, 114, 108, 100]⟩] 9)).heap.size = V.heap.size + 1 := by simp
  have r1 := strs_row V V.heap.size [nm, kb, (⟨#[119, 111, 114, 108, 100]⟩ : ByteArray)] #[.string nm, .string kb, .string ⟨#[119, 111, 114, 108, 100]⟩] 3 (Nat.le_refl _) rfl rfl (by decide)
  have r2 := ints_row (V.alloc (.cells #[.string nm, .string kb, .string ⟨#[119, 111, 114, 108, 100]⟩] 9)) V.heap.size [x, y, z, lo, hi] #[.int .i64 x, .int .i64 y, .int .i64 z, .int .i64 lo, .int .i64 hi] 5 (by simp) rfl rfl (by decide)
  have r3 : OwnT V.heap.size _ _ _ := own_below (World.ownsRow.alloc r1 (.cells #[.int .i64 x, .int .i64 y, .int .i64 z, .int .i64 lo, .int .i64 hi] 2)) (Below.refl _ _).drew
  have r4 := own_below r2 (Below.refl _ _).drew
  rw [hsz1] at r4
  have hr4 := all_int (p := fun u => -2147483648 ≤ u ∧ u ≤ 2147483648) [x, y, z, lo, hi] HR.out
  have hgo := appNumbers_any V.heap.size _ _ [nm, kb, (⟨#[119, 111, 114, 108, 100]⟩ : ByteArray)] [x, y, z, lo, hi] _ (HT2.on hb4) hb4.size r3 r4 (by simp) (by simp) hr4
  have HB4 := Lib.hid hb4
  have HGO := Lib.hid hgo
  clear hb4 r1 r2 r3 r4 hr4 hsz1 hgo HR hHeld HL
  rw [← hs]
  go_wp2_with fail
  try rw [← hs]
  refine HGO.out.mono ?_
  clear HGO
  rintro e w1 ⟨va, bs, rfl, hown, hlen, hok, hb⟩
  obtain ⟨q, n, c', rfl⟩ := own_slc hown
  have hb5 := HB4.out.trans hb
  have HO := Lib.hid hown
  have HLN := Lib.hid hlen
  have HOK := Lib.hid hok
  have HB := Lib.hid hb5
  have hs5 := hb5.size
  obtain ⟨_, _, _, _, _, _, _, _, d8, _⟩ := (JJ3.out.below hb5 (by omega)).all
  clear hown hlen hok hb hb5 HB4
  go_wp2_with fail
  clear d8
  have hb6 := HB.out.alloc hs5 (.cells #[.int .i64 wt] 2)
  have r2 := ints_row w1 V.heap.size [wt] #[.int .i64 wt] 1 hs5 rfl rfl (by decide)
  have r3 : OwnT V.heap.size _ _ _ := World.ownsRow.alloc HO.out (.cells #[.int .i64 wt] 2)
  have hgo := appIntegers_any V.heap.size _ _ ([nm, kb, (⟨#[119, 111, 114, 108, 100]⟩ : ByteArray)] ++ bs) [wt] _ (HT2.on hb6) hb6.size r3 r2 (by rw [List.length_append, HLN.out]; simp) (by simp) (all_int (p := fun u => 0 ≤ u ∧ u < 1000000000000000) [wt] (fun z hz => by rw [List.mem_singleton.1 hz]; exact HW.out))
  refine hgo.mono ?_
  clear hgo r2 r3 HO
  rintro e w2 ⟨va, bs2, rfl, hown, hlen, hok, hb⟩
  obtain ⟨b, rfl⟩ := List.length_eq_one_iff.1 hlen
  obtain ⟨q2, n2, c2, rfl⟩ := own_slc hown
  have hb7 := hb6.trans hb
  have HO := Lib.hid hown
  have HBW := Lib.hid (show intW b wt from hok 0 (by simp) (by simp))
  have HB7 := Lib.hid hb7
  obtain ⟨⟨d0, d1, d2⟩, f0, f1, f2⟩ := (HS.out.below hb7 (by omega)).all
  have hs7 := hb7.size
  clear hown hlen hok hb hb6 hb7 HB
  go_wp2_with fail
  refine bodyPost_ret (v := .agg #[.int .i64 0, .string ⟨#[106, 111, 105, 110, 116]⟩, .slice q2 n2 c2]) (by first | (simp [results, Tryd.results47, go_sem, d0, d1, d2]; done) | (simp [results, Tryd.results47, go_sem]; done)) rfl ⟨_, bs, b, rfl, ?_, HLN.out, HOK.out, HBW.out, ?_⟩
  · exact OwnT.mono (B := V.heap.size) (xs := [nm, kb, (⟨#[119, 111, 114, 108, 100]⟩ : ByteArray)] ++ bs ++ [b]) (by repeat (first | exact HO.out | refine OwnT.set_below ?_ (by dsimp only; omega) _)) (by omega)
  · exact BB3.out.trans (by repeat (first | exact HB7.out.mono (by omega) | refine Below.setCell ?_ (by dsimp only; omega) _))
set_option linter.unusedSimpArgs false in
set_option linter.unusedVariables false in
set_option maxRecDepth 100000 in
set_option maxHeartbeats 6400000 in
theorem jointSt_link (js : List JointD) (vj vm : Value) (p : Nat) (jp : JointD) (nm : ByteArray) (k : Nat) (x y z lo hi wt sp ac tq : Int) (w : World) (hT : Pow10 w) (hK : KindT w) (hk : k < 7) (hz : ∀ u ∈ [x, y, z, lo, hi], -2147483648 ≤ u ∧ u ≤ 2147483648) (hw : 0 ≤ wt ∧ wt < 1000000000000000) (hr : RdO w vj js.length 12 (jcells js)) (hp : p < js.length) (hje : js[p] = jp) (lj : js.length ≤ 8796093022208) :
    Calls Tryd.prog 47 #[ .agg #[vj, vm], .agg #[.string nm, .int .i64 k, .int .i64 p, .int .i64 x, .int .i64 y, .int .i64 z, .int .i64 lo, .int .i64 hi, .int .i64 wt, .int .i64 sp, .int .i64 ac, .int .i64 tq] ] w (StJ w [nm, kindB k, jp.name] [x, y, z, lo, hi] wt) := by
  obtain ⟨A, c, rfl, _, hat⟩ := hr.joint
  obtain ⟨g, o, rfl, hg, c0, _⟩ := hat p hp
  rw [hje] at c0
  obtain ⟨pn, hpn⟩ : ∃ b, jp.name = b := ⟨_, rfl⟩
  rw [hpn] at c0 ⊢
  have e0 : ((p : Int) != -1) = true := by first | (simp; done) | (simp; omega)
  obtain ⟨kb, hkb⟩ : ∃ b, kindB k = b := ⟨_, rfl⟩
  have HKB := Lib.hid hkb
  rw [hkb]
  clear hkb
  have HT := Lib.hid hT
  have HK := Lib.hid hK
  have HR := Lib.hid hz
  have HW := Lib.hid hw
  have hb3 : Below w.heap.size w (((w.alloc (.cells #[.slice (some ⟨g, o, none⟩) js.length c, vm] 25)).alloc (.cells #[.string nm, .int .i64 k, .int .i64 p, .int .i64 x, .int .i64 y, .int .i64 z, .int .i64 lo, .int .i64 hi, .int .i64 wt, .int .i64 sp, .int .i64 ac, .int .i64 tq] 60)).alloc (.cells #[.int .i64 0, .string ⟨#[]⟩, .slice none 0 0] 43)) := (((Below.refl _ _).alloc (Nat.le_refl _) _).alloc (by simp) _).alloc (by simp; omega) _
  have J3 : JointAt (((w.alloc (.cells #[.slice (some ⟨g, o, none⟩) js.length c, vm] 25)).alloc (.cells #[.string nm, .int .i64 k, .int .i64 p, .int .i64 x, .int .i64 y, .int .i64 z, .int .i64 lo, .int .i64 hi, .int .i64 wt, .int .i64 sp, .int .i64 ac, .int .i64 tq] 60)).alloc (.cells #[.int .i64 0, .string ⟨#[]⟩, .slice none 0 0] 43)) (w.heap.size + 1) (⟨nm, k, p, x, y, z, lo, hi, wt, sp, ac, tq⟩ : JointD) := (JointAt.at_new (V := w.alloc (.cells #[.slice (some ⟨g, o, none⟩) js.length c, vm] 25)) (j := (⟨nm, k, p, x, y, z, lo, hi, wt, sp, ac, tq⟩ : JointD)) (by simp)).alloc _
  have b1 := (hb3.cell (p := ⟨g, o + p * 12, none⟩) hg).trans c0
  have BB3 := Lib.hid hb3
  have JJ3 := Lib.hid J3
  obtain ⟨d0, d1, d2, _⟩ := J3.all
  clear hT hK hz hw hb3 J3 hr hat hje hpn
  unfold StJ
  go_enter Tryd.func47, Tryd.ntmps47
  go_wp2_with fail
  clear d0 d1 d2 c0 b1
  obtain ⟨V, hV⟩ : ∃ V, (((w.alloc (.cells #[.slice (some ⟨g, o, none⟩) js.length c, vm] 25)).alloc (.cells #[.string nm, .int .i64 k, .int .i64 p, .int .i64 x, .int .i64 y, .int .i64 z, .int .i64 lo, .int .i64 hi, .int .i64 wt, .int .i64 sp, .int .i64 ac, .int .i64 tq] 60)).alloc (.cells #[.int .i64 0, .string ⟨#[]⟩, .slice none 0 0] 43)) = V := ⟨_, rfl⟩
  have hs : V.heap.size = w.heap.size + 1 + 1 + 1 := by rw [← hV]; simp
  have hS : StAtB V (w.heap.size + 1 + 1) := by rw [← hV]; exact StAtB.new (by simp)
  rw [hV] at BB3 JJ3 ⊢
  have HS := Lib.hid hS
  have HT2 : PowB V.heap.size V := HT.out.next BB3.out
  have KT := kindT_at (HK.out.next BB3.out) k hk
  obtain ⟨d0, d1, d2, _⟩ := JJ3.out.all
  have HL := Lib.hid (show ∀ W', Below V.heap.size V W' → (fun w1 : World => w1.cell? ⟨w.heap.size + 1, 0, none⟩ = some (.string nm) ∧ w1.cell? ⟨w.heap.size + 1, 1, none⟩ = some (.int .i64 k) ∧ w1.cell? ⟨0, k, none⟩ = some (.string kb) ∧ Below V.heap.size V w1) W' from fun W' hb => ⟨(hb.cell (p := ⟨w.heap.size + 1, 0, none⟩) (by dsimp only; omega)).trans d0, (hb.cell (p := ⟨w.heap.size + 1, 1, none⟩) (by dsimp only; omega)).trans d1, HKB.out ▸ kindT_at ((HK.out.next BB3.out).next hb) k hk, hb⟩)
  clear hV hS HT d0 d1 d2 KT
  refine wp_region_noPanic ?_
  refine wp_region_held_drew (S := (fun w1 : World => w1.cell? ⟨w.heap.size + 1, 0, none⟩ = some (.string nm) ∧ w1.cell? ⟨w.heap.size + 1, 1, none⟩ = some (.int .i64 k) ∧ w1.cell? ⟨0, k, none⟩ = some (.string kb) ∧ Below V.heap.size V w1)) (by kernel_rfl) ?_ (fun hHeld => ?_)
  focus (refine HL.out _ ?_; first | exact (Below.refl _ _).drew | exact (hHeld.2.2.2).drew | exact (((hHeld.2.2.2).alloc (hHeld.2.2.2).size _)).drew | exact ((Below.refl _ _).alloc (Nat.le_refl _) _).drew | exact (((Below.refl _ _).drew).alloc (by simp) _).drew)
  refine wpAnyH_take (i := 0) (v := ?_) rfl (by kernel_rfl) (by kernel_rfl) (by kernel_rfl) (fun _ _ _ h => h) (Or.inl ⟨by rfl, ?_⟩) (by assumption) ?_; rotate_left; (focus (intro w hSw; (try dsimp only at hSw); go_simp; try with_reducible rfl)); (try simp only [Act.put, List.getElem_toArray, List.getElem_cons_succ, List.getElem_cons_zero, List.setIfInBounds_toArray, List.set_cons_zero, List.set_cons_succ])
  refine wpAnyH_take (i := 1) (v := ?_) rfl (by kernel_rfl) (by kernel_rfl) (by kernel_rfl) (fun _ _ _ h => h) (Or.inl ⟨by rfl, ?_⟩) (by assumption) ?_; rotate_left; (focus (intro w hSw; (try dsimp only at hSw); go_simp; try with_reducible rfl)); (try simp only [Act.put, List.getElem_toArray, List.getElem_cons_succ, List.getElem_cons_zero, List.setIfInBounds_toArray, List.set_cons_zero, List.set_cons_succ])
  refine wpAnyH_take (i := 2) (v := ?_) rfl (by kernel_rfl) (by kernel_rfl) (by kernel_rfl) (fun _ _ _ h => h) (Or.inl ⟨by rfl, ?_⟩) (by assumption) ?_; rotate_left; (focus (intro w hSw; (try dsimp only at hSw); go_simp; try with_reducible rfl)); (try simp only [Act.put, List.getElem_toArray, List.getElem_cons_succ, List.getElem_cons_zero, List.setIfInBounds_toArray, List.set_cons_zero, List.set_cons_succ])
  refine wpAnyH_take (i := 3) (v := ?_) rfl (by kernel_rfl) (by kernel_rfl) (by kernel_rfl) (fun _ _ _ h => h) (Or.inl ⟨by rfl, ?_⟩) (by assumption) ?_; rotate_left; (focus (intro w hSw; (try dsimp only at hSw); go_simp; try with_reducible rfl)); (try simp only [Act.put, List.getElem_toArray, List.getElem_cons_succ, List.getElem_cons_zero, List.setIfInBounds_toArray, List.set_cons_zero, List.set_cons_succ])
  refine wpAnyH_take (i := 4) (v := .pointer (some ⟨0, k, none⟩)) rfl (by kernel_rfl) (by kernel_rfl) (by kernel_rfl) (fun _ _ _ h => h) (Or.inl ⟨by rfl, by intro w hSw; go_simp; exact fun h => absurd h (by omega)⟩) (by assumption) ?_; (try simp only [Act.put, List.getElem_toArray, List.getElem_cons_succ, List.getElem_cons_zero, List.setIfInBounds_toArray, List.set_cons_zero, List.set_cons_succ])
  refine wpAnyH_take (i := 5) (v := ?_) rfl (by kernel_rfl) (by kernel_rfl) (by kernel_rfl) (fun _ _ _ h => h) (Or.inl ⟨by rfl, ?_⟩) (by assumption) ?_; rotate_left; (focus (intro w hSw; (try dsimp only at hSw); go_simp; try with_reducible rfl)); (try simp only [Act.put, List.getElem_toArray, List.getElem_cons_succ, List.getElem_cons_zero, List.setIfInBounds_toArray, List.set_cons_zero, List.set_cons_succ])
  refine wpAnyH_take (i := 6) (v := ?_) rfl (by kernel_rfl) (by kernel_rfl) (by kernel_rfl) (fun _ _ _ h => h) (Or.inl ⟨by rfl, ?_⟩) (by assumption) ?_; rotate_left; (focus (intro w hSw; (try dsimp only at hSw); go_simp; try with_reducible rfl)); (try simp only [Act.put, List.getElem_toArray, List.getElem_cons_succ, List.getElem_cons_zero, List.setIfInBounds_toArray, List.set_cons_zero, List.set_cons_succ])
  refine wpAnyH_ready (rs := [7]) (by kernel_rfl) (by simp) (AllReadyH.cons rfl (fun K hK => ?_) AllReadyH.nil); go_simp; refine hK.out _ _ ?_ (fun hHeld => ?_); (focus (refine HL.out _ ?_; first | exact (Below.refl _ _).drew | exact (hHeld.2.2.2).drew | exact (((hHeld.2.2.2).alloc (hHeld.2.2.2).size _)).drew | exact ((Below.refl _ _).alloc (Nat.le_refl _) _).drew | exact (((Below.refl _ _).drew).alloc (by simp) _).drew)); clear hK K; (try simp only [Act.put, List.getElem_toArray, List.getElem_cons_succ, List.getElem_cons_zero, List.setIfInBounds_toArray, List.set_cons_zero, List.set_cons_succ])
  refine wpAnyH_take (i := 8) (v := ?_) rfl (by kernel_rfl) (by kernel_rfl) (by kernel_rfl) (fun _ _ _ h => h) (Or.inl ⟨by rfl, ?_⟩) (by assumption) ?_; rotate_left; (focus (intro w hSw; (try dsimp only at hSw); go_simp; try with_reducible rfl)); (try simp only [Act.put, List.getElem_toArray, List.getElem_cons_succ, List.getElem_cons_zero, List.setIfInBounds_toArray, List.set_cons_zero, List.set_cons_succ])
  refine wpAnyH_done (by kernel_rfl) ?_ _
  refine NoPanic.normal ?_
  have hb4 := (((Below.refl V.heap.size V).alloc (Nat.le_refl _) (.cells #[.string nm, .string kb, .string pn] 9)).alloc (by simp) (.cells #[.int .i64 x, .int .i64 y, .int .i64 z, .int .i64 lo, .int .i64 hi] 2)).drew
  have hsz1 : (V.alloc (.cells #[.string nm, .string kb, .string pn] 9)).heap.size = V.heap.size + 1 := by simp
  have r1 := strs_row V V.heap.size [nm, kb, pn] #[.string nm, .string kb, .string pn] 3 (Nat.le_refl _) rfl rfl (by decide)
  have r2 := ints_row (V.alloc (.cells #[.string nm, .string kb, .string pn] 9)) V.heap.size [x, y, z, lo, hi] #[.int .i64 x, .int .i64 y, .int .i64 z, .int .i64 lo, .int .i64 hi] 5 (by simp) rfl rfl (by decide)
  have r3 : OwnT V.heap.size _ _ _ := own_below (World.ownsRow.alloc r1 (.cells #[.int .i64 x, .int .i64 y, .int .i64 z, .int .i64 lo, .int .i64 hi] 2)) (Below.refl _ _).drew
  have r4 := own_below r2 (Below.refl _ _).drew
  rw [hsz1] at r4
  have hr4 := all_int (p := fun u => -2147483648 ≤ u ∧ u ≤ 2147483648) [x, y, z, lo, hi] HR.out
  have hgo := appNumbers_any V.heap.size _ _ [nm, kb, pn] [x, y, z, lo, hi] _ (HT2.on hb4) hb4.size r3 r4 (by simp) (by simp) hr4
  have HB4 := Lib.hid hb4
  have HGO := Lib.hid hgo
  clear hb4 r1 r2 r3 r4 hr4 hsz1 hgo HR hHeld HL
  rw [← hs]
  go_wp2_with fail
  try rw [← hs]
  refine HGO.out.mono ?_
  clear HGO
  rintro e w1 ⟨va, bs, rfl, hown, hlen, hok, hb⟩
  obtain ⟨q, n, c', rfl⟩ := own_slc hown
  have hb5 := HB4.out.trans hb
  have HO := Lib.hid hown
  have HLN := Lib.hid hlen
  have HOK := Lib.hid hok
  have HB := Lib.hid hb5
  have hs5 := hb5.size
  obtain ⟨_, _, _, _, _, _, _, _, d8, _⟩ := (JJ3.out.below hb5 (by omega)).all
  clear hown hlen hok hb hb5 HB4
  go_wp2_with fail
  clear d8
  have hb6 := HB.out.alloc hs5 (.cells #[.int .i64 wt] 2)
  have r2 := ints_row w1 V.heap.size [wt] #[.int .i64 wt] 1 hs5 rfl rfl (by decide)
  have r3 : OwnT V.heap.size _ _ _ := World.ownsRow.alloc HO.out (.cells #[.int .i64 wt] 2)
  have hgo := appIntegers_any V.heap.size _ _ ([nm, kb, pn] ++ bs) [wt] _ (HT2.on hb6) hb6.size r3 r2 (by rw [List.length_append, HLN.out]; simp) (by simp) (all_int (p := fun u => 0 ≤ u ∧ u < 1000000000000000) [wt] (fun z hz => by rw [List.mem_singleton.1 hz]; exact HW.out))
  refine hgo.mono ?_
  clear hgo r2 r3 HO
  rintro e w2 ⟨va, bs2, rfl, hown, hlen, hok, hb⟩
  obtain ⟨b, rfl⟩ := List.length_eq_one_iff.1 hlen
  obtain ⟨q2, n2, c2, rfl⟩ := own_slc hown
  have hb7 := hb6.trans hb
  have HO := Lib.hid hown
  have HBW := Lib.hid (show intW b wt from hok 0 (by simp) (by simp))
  have HB7 := Lib.hid hb7
  obtain ⟨⟨d0, d1, d2⟩, f0, f1, f2⟩ := (HS.out.below hb7 (by omega)).all
  have hs7 := hb7.size
  clear hown hlen hok hb hb6 hb7 HB
  go_wp2_with fail
  refine bodyPost_ret (v := .agg #[.int .i64 0, .string ⟨#[106, 111, 105, 110, 116]⟩, .slice q2 n2 c2]) (by first | (simp [results, Tryd.results47, go_sem, d0, d1, d2]; done) | (simp [results, Tryd.results47, go_sem]; done)) rfl ⟨_, bs, b, rfl, ?_, HLN.out, HOK.out, HBW.out, ?_⟩
  · exact OwnT.mono (B := V.heap.size) (xs := [nm, kb, pn] ++ bs ++ [b]) (by repeat (first | exact HO.out | refine OwnT.set_below ?_ (by dsimp only; omega) _)) (by omega)
  · exact BB3.out.trans (by repeat (first | exact HB7.out.mono (by omega) | refine Below.setCell ?_ (by dsimp only; omega) _))
end Go.Proofs.YtpaiapcnoifpmaaDoor
