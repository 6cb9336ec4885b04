/- Proved: the developers' Name returns what nameS in Tk2 computes, and turns nothing that was there before. Conditions: as the theorem states. -/
import Derived.Test.YtmdgofbecmonhaaDoorTkG
namespace Go.Proofs.YtmdgofbecmonhaaDoor
open Go.RowKit

theorem head_at (s : ByteArray) (h : 0 < s.size) : (bts s).headD 0 = s[0].toNat := by
  have := bts_drop s h
  rw [List.drop_zero] at this
  rw [this]; rfl
theorem name_no {s : ByteArray} {c pos : Nat} (h : pos < s.size) (hc : s[pos].toNat = c) (hb : nameB c = false ∨ (pos = 0 ∧ low c = false)) : (low ((bts s).headD 0) && (bts s).all nameB) = false := by
  rcases hb with hb | ⟨h0, hb⟩
  · have : (bts s).all nameB = false := by
      rw [List.all_eq_false]
      exact ⟨c, by rw [← hc, ← bts_get s h]; exact List.getElem_mem _, by simp [hb]⟩
    rw [this, Bool.and_false]
  · subst h0
    rw [head_at s h, hc, hb, Bool.false_and]
set_option linter.unusedSimpArgs false in
set_option linter.unusedVariables false in
set_option maxHeartbeats 6400000 in
set_option maxRecDepth 100000 in
theorem tName_any (s : ByteArray) (w : World) : Calls Tryd.prog 17 #[ .string s ] w fun e w' => e = .returned (.bool (nameS (bts s))) ∧ Below w.heap.size w w' := by
  obtain ⟨r, hr⟩ : ∃ r, nameS (bts s) = r := ⟨_, rfl⟩
  rw [hr]
  unfold nameS at hr
  rw [bts_len] at hr
  by_cases h0 : s.size = 0
  · have e : r = false := by rw [← hr]; simp; omega
    subst e
    have e0 := empty_of h0
    subst e0
    clear hr
    go_enter Tryd.func17, Tryd.ntmps17
    go_wp2
    go_ret
    exact ⟨rfl, Below.refl _ _⟩
  · have he := not_empty h0
    by_cases h2 : 16 < s.size
    · have e : r = false := by rw [← hr]; simp; omega
      subst e
      clear hr
      go_enter Tryd.func17, Tryd.ntmps17
      go_wp2
      go_ret
      exact ⟨rfl, Below.refl _ _⟩
    · have hw := bts_world s
      by_cases h3 : bts s = worldL
      · have e : r = false := by rw [← hr]; simp [h3]
        subst e
        have hw' : (s.toList == [119, 111, 114, 108, 100]) = true := by rw [hw]; simp [h3]
        clear hr h3 hw
        go_enter Tryd.func17, Tryd.ntmps17
        go_wp2
        go_ret
        exact ⟨rfl, Below.refl _ _⟩
      · have hw' : (s.toList == [119, 111, 114, 108, 100]) = false := by rw [hw]; simp [h3]
        have HR : Hid (r = (low ((bts s).headD 0) && (bts s).all nameB)) := Lib.hid (by rw [← hr, decide_eq_true (show 1 ≤ s.size by omega), decide_eq_true (show s.size ≤ 16 by omega), decide_eq_false h3]; rfl)
        have HI := Lib.hid (World.iter_heap w s 0)
        have B0 := Lib.hid (show Below w.heap.size w (w.iter s 0) from (Below.refl _ w).alloc (Nat.le_refl _) _)
        clear hr h3 hw
        go_enter Tryd.func17, Tryd.ntmps17
        go_wp2
        go_loopw [3] (fun _ wr => ∃ (pos : Nat), pos ≤ s.size ∧ wr.heap[w.heap.size]? = some (.stringIter s pos) ∧ Below w.heap.size w wr ∧ ((bts s).take pos).all nameB = true ∧ (0 < pos → low ((bts s).headD 0) = true)) (fun _ wr => s.size - wr.iterPos w.heap.size)
        case atStart => exact ⟨0, by omega, HI.out, B0.out, rfl, fun h => by omega⟩
        case round =>
          obtain ⟨pos, hp, hit, hbw, hall, hhd⟩ := hrel
          have HALL := Lib.hid hall
          have HHD := Lib.hid hhd
          have HBW := Lib.hid hbw
          clear hall hhd hbw
          by_cases hlt : pos < s.size
          · obtain ⟨c, hc⟩ : ∃ c, s[pos].toNat = c := ⟨_, rfl⟩
            by_cases ha : c < 128
            · have hnx : ∀ ty, (Instr.next (.pointer (some ⟨w.heap.size, 0, none⟩)) true ty).run Tryd.prog wr = _ := fun ty => Lib.run_next_ascii_at wr w.heap.size s pos ty hit hlt (by omega)
              have hit2 := Lib.hid (Lib.iterAt_heap wr w.heap.size s pos (pos + 1) hit)
              have hb2 := Lib.hid (Lib.below_iterAt HBW.out (k := w.heap.size) (Nat.le_refl _) s (pos + 1))
              have HIT := Lib.hid hit
              have HC := Lib.hid hc
              rw [hc] at hnx
              obtain ⟨W1, hW1⟩ : ∃ W1, W1 = wr.iterAt w.heap.size s (pos + 1) := ⟨_, rfl⟩
              rw [← hW1] at hnx hit2 hb2
              clear hit hc hW1
              have hc31 : c ≤ 2147483647 := by omega
              have HGO : Hid (nameB c = true → (pos = 0 → low c = true) → ((bts s).take (pos + 1)).all nameB = true ∧ (0 < pos + 1 → low ((bts s).headD 0) = true)) := Lib.hid (by
                intro h1 h2
                refine ⟨by rw [take_step s hlt HC.out, List.all_append, HALL.out]; simp [h1], fun _ => ?_⟩
                rcases Nat.eq_zero_or_pos pos with h | h
                · have := HC.out
                  subst h
                  rw [head_at s hlt, this]; exact h2 rfl
                · exact HHD.out h)
              cases hL : low c
              · have HL := Lib.hid hL
                clear hL
                rcases Nat.eq_zero_or_pos pos with hp0 | hp0
                · have e : r = false := by rw [HR.out, name_no hlt HC.out (.inr ⟨hp0, HL.out⟩)]
                  subst e
                  have k0 : ((pos : Int) == 0) = true := by simp; omega
                  go_wp2_with (go_at_call 31; (with_reducible refine (isLetter_any c _ hc31).mono ?_); rintro e w' ⟨rfl, rfl⟩; rw [HL.out])
                  go_ret
                  exact ⟨rfl, hb2.out⟩
                · have k0 : ((pos : Int) == 0) = false := by simp; omega
                  cases hD : isd c
                  · have HD := Lib.hid hD
                    clear hD
                    by_cases h95 : c = 95
                    · have c0 : (((c : Nat) : Int) != 95) = false := by simp [h95]
                      have HG := Lib.hid (HGO.out (by simp [nameB, h95]) (fun h => by omega))
                      clear h95
                      go_wp2_with (first | (go_at_call 31; (with_reducible refine (isLetter_any c _ hc31).mono ?_); rintro e w' ⟨rfl, rfl⟩; rw [HL.out]) | (go_at_call 32; (with_reducible refine (isDigit_any c _ hc31).mono ?_); rintro e w' ⟨rfl, rfl⟩; rw [HD.out]))
                      go_roundw
                      case rel => exact ⟨pos + 1, by omega, hit2.out, hb2.out, HG.out⟩
                      case measure => rw [iter_pos hit2.out, iter_pos HIT.out]; omega
                    · have c0 : (((c : Nat) : Int) != 95) = true := by simp; omega
                      have e : r = false := by rw [HR.out, name_no hlt HC.out (.inl (by simp [nameB, HL.out, HD.out, h95]))]
                      subst e
                      clear h95
                      go_wp2_with (first | (go_at_call 31; (with_reducible refine (isLetter_any c _ hc31).mono ?_); rintro e w' ⟨rfl, rfl⟩; rw [HL.out]) | (go_at_call 32; (with_reducible refine (isDigit_any c _ hc31).mono ?_); rintro e w' ⟨rfl, rfl⟩; rw [HD.out]))
                      go_ret
                      exact ⟨rfl, hb2.out⟩
                  · have HD := Lib.hid hD
                    clear hD
                    have HG := Lib.hid (HGO.out (by simp [nameB, HD.out]) (fun h => by omega))
                    go_wp2_with (first | (go_at_call 31; (with_reducible refine (isLetter_any c _ hc31).mono ?_); rintro e w' ⟨rfl, rfl⟩; rw [HL.out]) | (go_at_call 32; (with_reducible refine (isDigit_any c _ hc31).mono ?_); rintro e w' ⟨rfl, rfl⟩; rw [HD.out]))
                    go_roundw
                    case rel => exact ⟨pos + 1, by omega, hit2.out, hb2.out, HG.out⟩
                    case measure => rw [iter_pos hit2.out, iter_pos HIT.out]; omega
              · have HL := Lib.hid hL
                clear hL
                have HG := Lib.hid (HGO.out (by simp [nameB, HL.out]) (fun h => HL.out))
                go_wp2_with (go_at_call 31; (with_reducible refine (isLetter_any c _ hc31).mono ?_); rintro e w' ⟨rfl, rfl⟩; rw [HL.out])
                go_roundw
                case rel => exact ⟨pos + 1, by omega, hit2.out, hb2.out, HG.out⟩
                case measure => rw [iter_pos hit2.out, iter_pos HIT.out]; omega
            · have hnx : ∀ ty, (Instr.next (.pointer (some ⟨w.heap.size, 0, none⟩)) true ty).run Tryd.prog wr = _ := fun ty => Lib.run_next_any_at wr w.heap.size s pos ty hit hlt
              obtain ⟨hr, hw1, hw2, _⟩ := decode_span s pos hlt (by omega)
              have hb2 := Lib.hid (Lib.below_iterAt HBW.out (k := w.heap.size) (Nat.le_refl _) s (pos + (Utf8.decode s pos).2))
              have hr31 := decode_le s pos
              obtain ⟨W1, hW1⟩ : ∃ W1, W1 = wr.iterAt w.heap.size s (pos + (Utf8.decode s pos).2) := ⟨_, rfl⟩
              rw [← hW1] at hnx hb2
              obtain ⟨q, hrr⟩ : ∃ r, (Utf8.decode s pos).1 = r := ⟨_, rfl⟩
              rw [hrr] at hnx hr hr31
              have HD := Lib.hid (isd_not.2 (show q < 48 ∨ 57 < q by omega))
              have HL : Hid (low q = false) := Lib.hid (by simp [low]; omega)
              have c0 : (((q : Nat) : Int) != 95) = true := by simp; omega
              have e : r = false := by rw [HR.out, name_no hlt hc (.inl (by simp [nameB, low, isd]; omega))]
              subst e
              clear hit hc hW1 hrr hw1 hw2
              rcases Nat.eq_zero_or_pos pos with hp0 | hp0
              · have k0 : ((pos : Int) == 0) = true := by simp; omega
                go_wp2_with (first | (go_at_call 31; (with_reducible refine (isLetter_any q _ hr31).mono ?_); rintro e w' ⟨rfl, rfl⟩; rw [HL.out]) | (go_at_call 32; (with_reducible refine (isDigit_any q _ hr31).mono ?_); rintro e w' ⟨rfl, rfl⟩; rw [HD.out]))
                go_ret
                exact ⟨rfl, hb2.out⟩
              · have k0 : ((pos : Int) == 0) = false := by simp; omega
                go_wp2_with (first | (go_at_call 31; (with_reducible refine (isLetter_any q _ hr31).mono ?_); rintro e w' ⟨rfl, rfl⟩; rw [HL.out]) | (go_at_call 32; (with_reducible refine (isDigit_any q _ hr31).mono ?_); rintro e w' ⟨rfl, rfl⟩; rw [HD.out]))
                go_ret
                exact ⟨rfl, hb2.out⟩
          · have hnx : ∀ ty, (Instr.next (.pointer (some ⟨w.heap.size, 0, none⟩)) true ty).run Tryd.prog wr = _ := fun ty => Lib.run_next_end_at wr w.heap.size s pos ty hit hlt
            have hps : pos = s.size := by omega
            have e : r = true := by
              have h1 := HALL.out
              rw [hps, take_all] at h1
              rw [HR.out, HHD.out (by omega), h1]; rfl
            subst e
            clear hit hps
            go_wp2
            go_ret
            exact ⟨rfl, HBW.out⟩
end Go.Proofs.YtmdgofbecmonhaaDoor
