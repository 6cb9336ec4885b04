/- Proved: lists of texts and of statements in memory, and that Same and SameStatements return true for equal ones. Conditions: as each theorem states. -/
import Derived.Test.YtnahlpeckfcciaaDoorSy2
namespace Go.Proofs.YtnahlpeckfcciaaDoor
open Go.RowKit

/-- A slice of texts that reads as a list. -/
def RdT (W : World) (v : Value) (xs : List ByteArray) : Prop := ∃ (A : Option Addr) (c : Nat), v = .slice A xs.length c ∧ xs.length ≤ 8796093022208 ∧
  ∀ (k : Nat) (h : k < xs.length), ∃ g o, A = some ⟨g, o, none⟩ ∧ g < W.heap.size ∧ W.cell? ⟨g, o + k, none⟩ = some (.string xs[k])
theorem RdT.below {W V : World} {v : Value} {xs : List ByteArray} {B : Nat} (h : RdT W v xs) (hb : Below B W V) (hB : W.heap.size ≤ B) : RdT V v xs := by
  obtain ⟨A, c, hv, hl, hk⟩ := h
  refine ⟨A, c, hv, hl, fun k hkl => ?_⟩
  obtain ⟨g, o, hA, hg, h0⟩ := hk k hkl
  have hs := hb.size
  exact ⟨g, o, hA, by omega, (hb.cell (p := ⟨g, o + k, none⟩) (by show g < B; omega)).trans h0⟩
theorem RdT.drewN {W : World} {v : Value} {xs : List ByteArray} (h : RdT W v xs) (n : Nat) : RdT (W.drewN n) v xs := h
/-- A slice of statements that reads as a list. -/
def RdS (W : World) (v : Value) (l : List St) : Prop := ∃ (A : Option Addr) (c : Nat), v = .slice A l.length c ∧ (l.length ≤ c ∧ l.length ≤ 8796093022208) ∧
  ∀ (k : Nat) (h : k < l.length), ∃ g o va, A = some ⟨g, o, none⟩ ∧ g < W.heap.size ∧ W.cell? ⟨g, o + k * 3, none⟩ = some (.int .i64 l[k].line) ∧ W.cell? ⟨g, o + k * 3 + 1, none⟩ = some (.string l[k].word) ∧ W.cell? ⟨g, o + k * 3 + 2, none⟩ = some va ∧ RdT W va l[k].args
theorem RdS.below {W V : World} {v : Value} {l : List St} {B : Nat} (h : RdS W v l) (hb : Below B W V) (hB : W.heap.size ≤ B) : RdS V v l := by
  obtain ⟨A, c, hv, hl, hk⟩ := h
  refine ⟨A, c, hv, hl, fun k hkl => ?_⟩
  obtain ⟨g, o, va, hA, hg, h0, h1, h2, h3⟩ := hk k hkl
  have hs := hb.size
  exact ⟨g, o, va, hA, by omega, (hb.cell (p := ⟨g, o + k * 3, none⟩) (by show g < B; omega)).trans h0, (hb.cell (p := ⟨g, o + k * 3 + 1, none⟩) (by show g < B; omega)).trans h1, (hb.cell (p := ⟨g, o + k * 3 + 2, none⟩) (by show g < B; omega)).trans h2, h3.below hb hB⟩
theorem RdS.take {W : World} {A : Option Addr} {n c m : Nat} {l : List St} (h : RdS W (.slice A n c) l) (hm : m ≤ l.length) : RdS W (.slice A m c) (l.take m) := by
  obtain ⟨A', c', hv, hl, hk⟩ := h
  injection hv with h1 h2 h3
  subst h1 h3
  refine ⟨A, c, by rw [List.length_take, Nat.min_eq_left hm], by rw [List.length_take]; omega, fun k hkl => ?_⟩
  rw [List.length_take] at hkl
  obtain ⟨g, o, va, hA, hg, h0, h1, h2, h3⟩ := hk k (by omega)
  refine ⟨g, o, va, hA, hg, ?_, ?_, h2, ?_⟩
  · rw [List.getElem_take]; exact h0
  · rw [List.getElem_take]; exact h1
  · rw [List.getElem_take]; exact h3
theorem RdS.nil (W : World) : RdS W (.slice none 0 0) [] := ⟨none, 0, rfl, by simp, fun k h => absurd h (by simp)⟩
set_option linter.unusedSimpArgs false in
set_option linter.unusedVariables false in
set_option maxRecDepth 100000 in
set_option maxHeartbeats 3200000 in
theorem sameT_any (u v : Value) (xs : List ByteArray) (w : World) (hu : RdT w u xs) (hv : RdT w v xs) :
    Calls Tryd.prog 41 #[ u, v ] w fun e w' => e = .returned (.bool true) ∧ ∃ q, w' = w.drewN q := by
  obtain ⟨A, c, rfl, hl, hu⟩ := hu
  obtain ⟨A', c', rfl, _, hv⟩ := hv
  have HU := Lib.hid hu
  have HV := Lib.hid hv
  clear hu hv
  go_enter Tryd.func41, Tryd.ntmps41
  go_wp2_with fail
  go_loopw [5] (fun i wr => ∃ k : Nat, k ≤ xs.length ∧ i = .int .i64 k ∧ ∃ q, wr = w.drewN q) (fun i _ => xs.length - (intOf i).toNat)
  case atStart => exact ⟨0, Nat.zero_le _, rfl, 0, rfl⟩
  case round =>
    obtain ⟨k, hk, rfl, q, rfl⟩ := hrel
    by_cases hlt : k < xs.length
    · obtain ⟨g, o, rfl, hg, a0⟩ := HU.out k hlt
      obtain ⟨g', o', rfl, hg', b0⟩ := HV.out k hlt
      go_wp2_with fail
      go_quiet (fail)
      go_wp2_with fail
      go_roundw
      case rel => exact ⟨k + 1, by omega, by go_num, _, by first | rfl | assumption⟩
      case measure => simp [intOf]; omega
    · go_wp2_with fail
      go_ret
      exact ⟨rfl, _, by first | rfl | assumption⟩
/-- Lists of statements that differ, if at all, in their lines. -/
def AlikeB (lines : Bool) (a b : List St) : Prop := a.length = b.length ∧ ∀ (k : Nat) (h : k < a.length) (h' : k < b.length), a[k].word = b[k].word ∧ a[k].args = b[k].args ∧ (lines = true → a[k].line = b[k].line)
theorem alike_refl (lines : Bool) (a : List St) : AlikeB lines a a := ⟨rfl, fun _ _ _ => ⟨rfl, rfl, fun _ => rfl⟩⟩
set_option linter.unusedSimpArgs false in
set_option linter.unusedVariables false in
set_option maxRecDepth 100000 in
set_option maxHeartbeats 6400000 in
theorem sameS_any (u v : Value) (a b : List St) (lines : Bool) (w : World) (hu : RdS w u a) (hv : RdS w v b) (hab : AlikeB lines a b) :
    Calls Tryd.prog 23 #[ u, v, .bool lines ] w fun e w' => e = .returned (.bool true) ∧ Below w.heap.size w w' := by
  have HU := Lib.hid hu
  have HV := Lib.hid hv
  obtain ⟨A, c, rfl, hl, hu⟩ := hu
  obtain ⟨A', c', rfl, _, hv⟩ := hv
  obtain ⟨hlen, hab⟩ := hab
  rw [← hlen]
  have HAB := Lib.hid hab
  have HLEN := Lib.hid hlen
  clear hu hv hab hlen
  go_enter Tryd.func23, Tryd.ntmps23
  go_wp2_with fail
  go_loopw [7] (fun i wr => ∃ k : Nat, k ≤ a.length ∧ i = .int .i64 k ∧ ∃ q, wr = w.drewN q) (fun i _ => a.length - (intOf i).toNat)
  case atStart => exact ⟨0, Nat.zero_le _, rfl, 0, rfl⟩
  case round =>
    obtain ⟨k, hk, rfl, q, hq⟩ := hrel
    by_cases hlt : k < a.length
    · have hlt' : k < b.length := by rw [← HLEN.out]; exact hlt
      obtain ⟨_, _, ea, _, hu⟩ := (show RdS wr _ _ by rw [hq]; exact HU.out)
      obtain ⟨_, _, eb, _, hv⟩ := (show RdS wr _ _ by rw [hq]; exact HV.out)
      injection ea with ea _ ec
      injection eb with eb _ ed
      subst ea eb ec ed
      obtain ⟨g, o, va, rfl, hg, a0, a1, a2, a3⟩ := hu k hlt
      obtain ⟨g', o', vb, rfl, hg', b0, b1, b2, b3⟩ := hv k hlt'
      have HQ := Lib.hid hq
      clear hq hu hv
      obtain ⟨e1, e2, e3⟩ := HAB.out k hlt hlt'
      rw [← e1] at b1
      rw [← e2] at b3
      have A3 := Lib.hid a3
      have B3 := Lib.hid b3
      clear a3 b3 e1 e2
      cases lines
      · clear e3
        go_wp2_with fail
        go_quiet (first | (go_at_call 41; refine Calls.quiet_of (sameT_any va vb _ _ (A3.out.drewN _) (B3.out.drewN _))))
        go_wp2_with fail
        go_roundw
        case rel => exact ⟨k + 1, by omega, by go_num, _, by rw [HQ.out, World.drewN_drewN]⟩
        case measure => simp [intOf]; omega
      · rw [← e3 rfl] at b0
        clear e3
        go_wp2_with fail
        go_quiet (first | (go_at_call 41; refine Calls.quiet_of (sameT_any va vb _ _ (A3.out.drewN _) (B3.out.drewN _))))
        go_wp2_with fail
        go_roundw
        case rel => exact ⟨k + 1, by omega, by go_num, _, by rw [HQ.out, World.drewN_drewN]⟩
        case measure => simp [intOf]; omega
    · go_wp2_with fail
      go_ret
      exact ⟨rfl, by first | (rw [hq]; exact bl_drewN (Below.refl _ _)) | exact bl_drewN (Below.refl _ _)⟩
end Go.Proofs.YtnahlpeckfcciaaDoor
