/- Proved: the developers' functions of one line: which lines are permitted, and the words that a line adds to a slice which owns the words so far. Conditions: as each theorem states. -/
import Derived.Test.YtnahlpeckfcciaaDoorTkG
import Derived.Test.YtnahlpeckfcciaaDoorTk8
import Derived.Test.YtnahlpeckfcciaaDoorOwn
namespace Go.Proofs.YtnahlpeckfcciaaDoor
open Go.RowKit

def pmL (c : Nat) : Bool := decide (c = 32) || (decide (c = 9) || wb c)
theorem pmL_iff {c : Nat} : pmL c = true ↔ c = 32 ∨ c = 9 ∨ wb c = true := by simp [pmL]
theorem clone_any (s : ByteArray) (w : World) (hs : s.size ≤ 281474976710656) : Calls Tryd.prog 66 #[ .string s ] w fun e w' => e = .returned (.string s) ∧ Below w.heap.size w w' := by
  have HS := Lib.hid hs
  clear hs
  go_enter Tryd.func66, Tryd.ntmps66
  go_wp2_with (go_at_call 73; refine (Tryd.stringslite_Clone s _ HS.out).mono ?_; rintro e w' ⟨rfl, hB⟩)
  go_ret
  exact ⟨rfl, hB⟩
set_option linter.unusedSimpArgs false in
set_option linter.unusedVariables false in
set_option maxHeartbeats 6400000 in
set_option maxRecDepth 100000 in
theorem tpermitted_any (s : ByteArray) (w : World) : Calls Tryd.prog 56 #[ .string s ] w fun e w' => e = .returned (.bool ((bts s).all pmL)) ∧ Below w.heap.size w w' := by
  obtain ⟨r, hr⟩ : ∃ r, (bts s).all pmL = r := ⟨_, rfl⟩
  rw [hr]
  have HR := Lib.hid hr
  have HI := Lib.hid (World.iter_heap w s 0)
  have B0 := Lib.hid (show Below w.heap.size w (w.iter s 0) from (Below.refl _ w).alloc (Nat.le_refl _) _)
  clear hr
  have hbad : ∀ c pos (h : pos < s.size), s[pos].toNat = c → pmL c = false → r = false := by
    intro c pos h hc hp
    rw [← HR.out, List.all_eq_false]
    exact ⟨c, by rw [← hc, ← bts_get s h]; exact List.getElem_mem _, by simp [hp]⟩
  have HBAD := Lib.hid hbad
  clear hbad
  go_enter Tryd.func56, Tryd.ntmps56
  go_wp2
  go_loopw [4] (fun _ wr => ∃ (pos : Nat), pos ≤ s.size ∧ wr.heap[w.heap.size]? = some (.stringIter s pos) ∧ Below w.heap.size w wr ∧ ((bts s).take pos).all pmL = true) (fun _ wr => s.size - wr.iterPos w.heap.size)
  case atStart => exact ⟨0, by omega, HI.out, B0.out, rfl⟩
  case round =>
    obtain ⟨pos, hp, hit, hbw, hall⟩ := hrel
    have HALL := Lib.hid hall
    have HBW := Lib.hid hbw
    clear hall hbw
    by_cases hlt : pos < s.size
    · obtain ⟨c, hc⟩ : ∃ c, s[pos].toNat = c := ⟨_, rfl⟩
      by_cases ha : c < 128
      · have hnx : ∀ ty, (Instr.next (.pointer (some ⟨w.heap.size, 0, none⟩)) true ty).run Tryd.prog wr = _ := fun ty => Lib.run_next_ascii_at wr w.heap.size s pos ty hit hlt (by omega)
        have hit2 := Lib.hid (Lib.iterAt_heap wr w.heap.size s pos (pos + 1) hit)
        have hb2 := Lib.hid (Lib.below_iterAt HBW.out (k := w.heap.size) (Nat.le_refl _) s (pos + 1))
        have HIT := Lib.hid hit
        have HC := Lib.hid hc
        rw [hc] at hnx
        obtain ⟨W1, hW1⟩ : ∃ W1, W1 = wr.iterAt w.heap.size s (pos + 1) := ⟨_, rfl⟩
        rw [← hW1] at hnx hit2 hb2
        clear hit hc hW1
        have hc31 : c ≤ 2147483647 := by omega
        have HGO : Hid (pmL c = true → ((bts s).take (pos + 1)).all pmL = true) := Lib.hid (by
          intro h1
          rw [take_step s hlt HC.out, List.all_append, HALL.out]; simp [h1])
        by_cases h32 : c = 32
        · have c0 : (((c : Nat) : Int) != 32) = false := by simp [h32]
          have HG := Lib.hid (HGO.out (pmL_iff.2 (.inl h32)))
          clear h32
          go_wp2_with fail
          go_roundw
          case rel => exact ⟨pos + 1, by omega, hit2.out, hb2.out, HG.out⟩
          case measure => rw [iter_pos hit2.out, iter_pos HIT.out]; omega
        · have c0 : (((c : Nat) : Int) != 32) = true := by simp; omega
          by_cases h9 : c = 9
          · have c1 : (((c : Nat) : Int) != 9) = false := by simp [h9]
            have HG := Lib.hid (HGO.out (pmL_iff.2 (.inr (.inl h9))))
            clear h9
            go_wp2_with fail
            go_roundw
            case rel => exact ⟨pos + 1, by omega, hit2.out, hb2.out, HG.out⟩
            case measure => rw [iter_pos hit2.out, iter_pos HIT.out]; omega
          · have c1 : (((c : Nat) : Int) != 9) = true := by simp; omega
            cases hw : wb c
            · have HW := Lib.hid hw
              have e := HBAD.out c pos hlt HC.out (by simp [pmL, hw, h32, h9])
              clear hw
              subst e
              go_wp2_with (go_at_call 65; (with_reducible refine (isWord_any c _ hc31).mono ?_); rintro e w' ⟨rfl, rfl⟩; rw [HW.out])
              go_ret
              exact ⟨rfl, hb2.out⟩
            · have HW := Lib.hid hw
              have HG := Lib.hid (HGO.out (pmL_iff.2 (.inr (.inr hw))))
              clear hw
              go_wp2_with (go_at_call 65; (with_reducible refine (isWord_any c _ hc31).mono ?_); rintro e w' ⟨rfl, rfl⟩; rw [HW.out])
              go_roundw
              case rel => exact ⟨pos + 1, by omega, hit2.out, hb2.out, HG.out⟩
              case measure => rw [iter_pos hit2.out, iter_pos HIT.out]; omega
      · have hnx : ∀ ty, (Instr.next (.pointer (some ⟨w.heap.size, 0, none⟩)) true ty).run Tryd.prog wr = _ := fun ty => Lib.run_next_any_at wr w.heap.size s pos ty hit hlt
        obtain ⟨hr, hw1, hw2, _⟩ := decode_span s pos hlt (by omega)
        have hb2 := Lib.hid (Lib.below_iterAt HBW.out (k := w.heap.size) (Nat.le_refl _) s (pos + (Utf8.decode s pos).2))
        have hr31 := decode_le s pos
        obtain ⟨W1, hW1⟩ : ∃ W1, W1 = wr.iterAt w.heap.size s (pos + (Utf8.decode s pos).2) := ⟨_, rfl⟩
        rw [← hW1] at hnx hb2
        obtain ⟨q, hrr⟩ : ∃ r, (Utf8.decode s pos).1 = r := ⟨_, rfl⟩
        rw [hrr] at hnx hr hr31
        have HW := Lib.hid (wb_not.2 (show q < 33 ∨ 126 < q ∨ q = 35 by omega))
        have c0 : (((q : Nat) : Int) != 32) = true := by simp; omega
        have c1 : (((q : Nat) : Int) != 9) = true := by simp; omega
        have e := HBAD.out c pos hlt hc (by simp [pmL, wb]; omega)
        subst e
        clear hit hc hW1 hrr hw1 hw2
        go_wp2_with (go_at_call 65; (with_reducible refine (isWord_any q _ hr31).mono ?_); rintro e w' ⟨rfl, rfl⟩; rw [HW.out])
        go_ret
        exact ⟨rfl, hb2.out⟩
    · have hnx : ∀ ty, (Instr.next (.pointer (some ⟨w.heap.size, 0, none⟩)) true ty).run Tryd.prog wr = _ := fun ty => Lib.run_next_end_at wr w.heap.size s pos ty hit hlt
      have hps : pos = s.size := by omega
      have e : r = true := by
        have h1 := HALL.out
        rw [hps, take_all] at h1
        rw [← HR.out, h1]
      subst e
      clear hit hps
      go_wp2
      go_ret
      exact ⟨rfl, HBW.out⟩
theorem own_iter {w : World} {base : Nat} {e : TypeId} {size : Nat} {v : Value} {n : Nat} {xs : List Value} (h : w.ownsRow base e size v n xs) {k p : Nat} {s : ByteArray} (hk : w.heap[k]? = some (.stringIter s p)) (p' : Nat) : (w.iterAt k s p').ownsRow base e size v n xs := by
  obtain ⟨h1, h2⟩ := h
  refine ⟨h1, ?_⟩
  rcases h2 with h2 | ⟨g, cap, cur, a, b, c, d⟩
  · exact .inl h2
  · have hg : g ≠ k := by
      intro e1
      rw [e1, hk] at c
      cases c
    exact .inr ⟨g, cap, cur, a, b, by rw [Lib.iterAt_other _ _ _ _ _ hg]; exact c, d⟩
theorem own_block {w : World} {base : Nat} {e : TypeId} {size : Nat} {v : Value} {n : Nat} {xs : List Value} (h : w.ownsRow base e size v n xs) {k p : Nat} {s : ByteArray} (hk : w.heap[k]? = some (.stringIter s p)) : some k ≠ v.ownBlock := by
  obtain ⟨h1, h2⟩ := h
  rcases h2 with ⟨h2, _⟩ | ⟨g, cap, cur, a, b, c, d⟩
  · rw [h2]; simp [Value.ownBlock]
  · rw [a]; simp [Value.ownBlock]
    intro e1
    rw [← e1, hk] at c
    cases c
theorem news3 (W : World) (a b c : Value) (T : TypeId) : ∀ k u, [a, b, c][k]? = some u → (W.alloc (.cells #[a, b, c] T)).cell? ((⟨W.heap.size, 0, none⟩ : Addr).add k) = some u := by
  intro k u hu
  match k, hu with
  | 0, hu => simp at hu; subst hu; simp [Addr.add]
  | 1, hu => simp at hu; subst hu; simp [Addr.add]
  | 2, hu => simp at hu; subst hu; simp [Addr.add]
  | k + 3, hu => simp at hu
end Go.Proofs.YtnahlpeckfcciaaDoor
