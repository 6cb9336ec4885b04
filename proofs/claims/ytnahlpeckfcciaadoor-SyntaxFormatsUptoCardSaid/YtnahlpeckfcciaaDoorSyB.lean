/- Proved: what the two writing steps of strings.Builder do in this program: copyCheck and WriteString leave a builder that holds the text behind what it held, and turn nothing below. Conditions: a builder as the library's words say, at most 2^47 bytes in all. -/
import Derived.Test.YtnahlpeckfcciaaDoorSy4
import Derived.Test.YtnahlpeckfcciaaDoorShelfB
import Derived.Lib.Builder
import Derived.Lib.AppendStr
import Derived.Laws.Externs
namespace Go.Proofs.YtnahlpeckfcciaaDoor
open Go.RowKit

theorem sb_ptr : Tryd.prog.underlying 84 = some (.pointer 86) := by kernel_rfl
theorem sb_uns : Tryd.prog.underlying 127 = some .unsafePointer := by kernel_rfl
theorem sb_byt : Tryd.prog.underlying 22 = some (.slice 5) := by kernel_rfl
theorem sb_str : Tryd.prog.underlying 9 = some .string := by kernel_rfl
theorem sb_two : (Tryd.prog.info? 86).map (·.size) = some 2 := by kernel_rfl
theorem sb_one : (Tryd.prog.info? 5).map (fun i => (i.zero, i.size, i.bytes)) = some (some (.int .u8 0), 1, 1) := by kernel_rfl
theorem sb_lies : liesAt Tryd.prog Tryd.prog.depth 86 (2 / Tryd.prog.cellsOf 86) 0 86 1 = true := by kernel_rfl
abbrev IsB (B b : Nat) (bs : List Value) (w : World) : Prop := Lib.IsBuilder 86 5 B b bs w
abbrev AtB (B b : Nat) (bs : List Value) (w : World) : Prop := Lib.BuilderAt 86 5 B b (.pointer (some ⟨b, 0, none⟩)) bs w
theorem own_neS {w : World} {base q : Nat} {e T : TypeId} {size : Nat} {v : Value} {n : Nat} {xs : List Value} {c : Array Value} {fz : Nat × Nat} (h : w.ownsRow base e size v n xs) (hq : w.heap[q]? = some (.cells c T fz)) (hne : e ≠ T) : v.ownBlock ≠ some q := by
  rcases h.2 with ⟨rfl, _⟩ | ⟨g, cap, cur, rfl, _, hg, _⟩
  · intro e1; cases e1
  · intro e1
    injection e1 with e1
    have e2 : g = q := e1
    subst e2
    rw [hg] at hq
    injection hq with h1
    injection h1 with _ h2 _
    exact hne h2
/-- Blocks of other types than bytes stay, but the builder's own. -/
def Stays (b : Nat) (w w' : World) : Prop := ∀ k cs T fr, w.heap[k]? = some (.cells cs T fr) → T ≠ 5 → k ≠ b → w'.heap[k]? = some (.cells cs T fr)
set_option linter.unusedSimpArgs false in
set_option linter.unusedVariables false in
set_option maxRecDepth 100000 in
set_option maxHeartbeats 3200000 in
theorem bCheck_any (B b : Nat) (bs : List Value) (w : World) (h : IsB B b bs w) :
    Calls Tryd.prog 53 #[ .pointer (some ⟨b, 0, none⟩) ] w fun e w' => e = .returned (.tuple #[]) ∧ AtB B b bs w' ∧ Below B w w' ∧ Stays b w w' := by
  obtain ⟨j, hj, hjs⟩ := Option.map_eq_some_iff.1 sb_two
  rcases h with h | h
  · have h0 := h.cell0
    have hsh := h.shape
    have hfz := h.frozen0
    have a1 := Lib.run_to_unsafe (P := Tryd.prog) w ⟨b, 0, none⟩ sb_ptr sb_uns hj (by rw [hjs]; decide) hsh (Nat.zero_lt_succ 1)
    have a2 := Lib.run_from_unsafe (P := Tryd.prog) w ⟨b, 0, none⟩ sb_uns sb_ptr hj hsh sb_lies
    have a3 : ∀ w, (callFunc 62 #[.pointer (some ⟨b, 0, none⟩)]).run Tryd.prog w = .ok (.value (.pointer (some ⟨b, 0, none⟩))) w := fun w => by
      rw [run_callFunc_extern Tryd.func62 (by kernel_rfl) (by kernel_rfl) (by kernel_rfl) (e := Extern.AbiNoEscape.same) (by kernel_rfl), Lib.run_noEscape]
      rfl
    go_enter Tryd.func53, Tryd.ntmps53
    go_wp2_with fail
    go_end0
    exact ⟨rfl, h.used _, (Below.refl B w).setCell (p := ⟨b, 0, none⟩) h.1 _, fun k cs T fr hk _ hne => (heap_setCell_other _ _ _ _ hne).trans hk⟩
  · have h0 := h.cell0
    have a1 := Lib.run_neq_ptr_same (P := Tryd.prog) w ⟨b, 0, none⟩ sb_ptr hj
    go_enter Tryd.func53, Tryd.ntmps53
    go_wp2_with fail
    go_end0
    exact ⟨rfl, h, Below.refl B _, fun k cs T fr hk _ _ => hk⟩
set_option linter.unusedSimpArgs false in
set_option linter.unusedVariables false in
set_option maxRecDepth 100000 in
set_option maxHeartbeats 3200000 in
theorem bWrite_any (B b : Nat) (bs : List Value) (s : ByteArray) (w : World) (h : IsB B b bs w) (hlen : bs.length + s.size ≤ 140737488355328) (hBw : B ≤ w.heap.size) :
    Calls Tryd.prog 36 #[ .pointer (some ⟨b, 0, none⟩), .string s ] w fun e w' => e = .returned (.tuple #[.int .i64 s.size, .nilIface]) ∧ AtB B b (bs ++ Lib.strCells s) w' ∧ Below B w w' ∧ Stays b w w' := by
  obtain ⟨i0, hi, hz0, hz1, hz2⟩ := info_parts sb_one
  go_enter Tryd.func36, Tryd.ntmps36
  go_wp2_with fail
  refine (bCheck_any B b bs _ h).mono ?_
  rintro e w1 ⟨rfl, ⟨hB, v, hbk, hown, hne⟩, hb1, hst⟩
  have c0 : w1.cell? ⟨b, 0, none⟩ = some (.pointer (some ⟨b, 0, none⟩)) := cell_of_row w1 b 0 _ _ _ hbk
  have c1 : w1.cell? ⟨b, 1, none⟩ = some v := cell_of_row w1 b 1 _ _ _ hbk
  go_wp2_with (at_builtin; refine Lib.wpList_append_own_string _ rfl _ _ 22 9 rfl B 5 i0 sb_byt sb_str hi hz0 hz1 hz2 _ _ _ rfl hown s rfl (by unfold maxLen; omega) (by omega) (by have := hb1.size; omega) ?_)
  intro v' w2 hown' hgrow _
  have hlt : b < w1.heap.size := lt_of_block hbk
  have hb2 : w2.heap[b]? = some (.cells #[.pointer (some ⟨b, 0, none⟩), v] 86 (0, 0)) := (hgrow.block b hlt (fun e => hne e.symm)).trans hbk
  have d0 : w2.cell? ⟨b, 0, none⟩ = some (.pointer (some ⟨b, 0, none⟩)) := cell_of_row w2 b 0 _ _ _ hb2
  have d1 : w2.cell? ⟨b, 1, none⟩ = some v := cell_of_row w2 b 1 _ _ _ hb2
  have f1 : w2.frozen? ⟨b, 1, none⟩ = false := frozen_of_row w2 b 1 _ _ hb2
  obtain ⟨ao, n', cap, rfl⟩ := own_slc hown'
  go_wp2_with fail
  go_ret2
  refine ⟨rfl, ?_, ?_, ?_⟩
  · exact Lib.BuilderAt.put hB hb2 (bs' := bs ++ Lib.strCells s) (by simpa [Lib.strCells_length] using hown') (by decide)
  · exact (hb1.grown hgrow (by have := hb1.size; omega) (fun k hk => (hown.lt k hk).1)).setCell (p := ⟨b, 1, none⟩) hB _
  · intro k cs T fr hk hT hkb
    have h1 := hst k cs T fr hk hT hkb
    have h2 : v.ownBlock ≠ some k := own_neS hown h1 (fun e => hT e.symm)
    exact (heap_setCell_other _ _ _ _ hkb).trans ((hgrow.block k (lt_of_block h1) (fun e => h2 e.symm)).trans h1)
end Go.Proofs.YtnahlpeckfcciaaDoor
