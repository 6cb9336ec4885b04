/- Proved: the statement TokenPlaces returns true. Conditions: as each theorem states. -/
import Derived.Test.YtmdgofbecmonhaaDoorTk11
namespace Go.Proofs.YtmdgofbecmonhaaDoor
open Go.RowKit

/-- The words from nx on begin at place i or behind it. -/
def Cut (W : List Wd) (nx i : Nat) : Prop := nx ≤ W.length ∧ ∀ j (h : j < W.length), nx ≤ j → i ≤ W[j].a
theorem cut_start (W : List Wd) : Cut W 0 0 := ⟨Nat.zero_le _, fun _ _ _ => Nat.zero_le _⟩
theorem cut_hit {L : List Nat} {W : List Wd} {n nx i : Nat} (hw : Words L W n) (_h : Cut W nx i) (hn : nx < W.length) (ha : W[nx].a = i) : Cut W (nx + 1) i :=
  ⟨hn, fun j hj hle => by
    have := List.pairwise_iff_getElem.1 hw.2 nx j hn hj (by omega)
    omega⟩
theorem cut_end {W : List Wd} {nx i : Nat} (h : ¬ nx < W.length) (hc : Cut W nx i) (k : Nat) : Cut W nx k := ⟨hc.1, fun j hj hle => by omega⟩
theorem cut_next {L : List Nat} {W : List Wd} {n nx i : Nat} (hw : Words L W n) (h : Cut W nx i) (hn : nx < W.length) (ha : W[nx].a ≠ i) : Cut W nx (i + 1) :=
  ⟨h.1, fun j hj hle => by
    have h0 := h.2 nx hn (Nat.le_refl _)
    rcases Nat.lt_or_eq_of_le hle with hlt | rfl
    · have := List.pairwise_iff_getElem.1 hw.2 nx j hn hj hlt
      omega
    · omega⟩
theorem cut_last {L : List Nat} {W : List Wd} {nx : Nat} (hw : Words L W L.length) (h : Cut W nx (L.length + 1)) : nx = W.length := by
  rcases Nat.lt_or_ge nx W.length with hn | hn
  · have h0 := h.2 nx hn (Nat.le_refl _)
    have h1 := (hw.1 W[nx] (List.getElem_mem hn)).1
    have := h1.1
    have := h1.2.1
    omega
  · have := h.1; omega
theorem lineOf_le (L : List Nat) (i : Nat) : lineOf L i ≤ i + 1 := by
  unfold lineOf
  have h1 := List.count_le_length (a := 10) (l := L.take i)
  rw [List.length_take] at h1
  omega
theorem lineOf_past (L : List Nat) : lineOf L (L.length + 1) = lineOf L L.length := by
  unfold lineOf
  rw [List.take_of_length_le (by omega), List.take_of_length_le (by omega)]
theorem bgOf_past (L : List Nat) : bgOf L (L.length + 1) = bgOf L L.length := by
  rw [bgOf, List.getElem?_eq_none (by omega)]; simp
theorem text_at {S : ByteArray} {w : Wd} (h : w.Good (bts S)) : (S.extract w.a w.b).size = w.b - w.a ∧ S.extract w.a (w.a + (S.extract w.a w.b).size) = S.extract w.a w.b := by
  have h1 := h.1
  have h2 := h.2.1
  rw [bts_len] at h2
  have e : (S.extract w.a w.b).size = w.b - w.a := by rw [ByteArray.size_extract]; omega
  exact ⟨e, by rw [e, show w.a + (w.b - w.a) = w.b by omega]⟩
set_option linter.unusedSimpArgs false in
set_option linter.unusedVariables false in
set_option maxRecDepth 100000 in
set_option maxHeartbeats 6400000 in
theorem TokenPlaces_any (src : ByteArray) (a : Option Addr) (n cap : Nat) (w : World) (hs : src.size ≤ 140737488355328) (l : BytesAt w a n) :
    Calls Tryd.prog 8 #[ .string src, .slice a n cap ] w fun e w' => e = .returned (.bool true) ∧ Below w.heap.size w w' := by
  have HBY := Lib.hid l
  clear l
  go_enter Tryd.func8, Tryd.ntmps8
  go_wp2_with fail
  refine (typical_any a n cap _ HBY.out).mono ?_
  rintro e w1 ⟨b, rfl, hbz, rfl⟩
  go_wp2_with fail
  obtain ⟨S, hS⟩ : ∃ S, b ++ src = S := ⟨_, rfl⟩
  have hSz : S.size ≤ 140737488356048 := by rw [← hS, ByteArray.size_append]; omega
  rw [hS]
  clear hS hs hbz
  refine (tSplit_any S _ (by unfold maxLen; omega)).mono ?_
  rintro e w1 ⟨v, rfl, ho, hb⟩
  have r1 := split_rd ho
  have B1 := Lib.hid hb
  clear ho hb
  cases hsp : splitS S with
  | bad k =>
    rw [hsp] at r1
    obtain ⟨A, c, rfl, _, _⟩ := r1
    simp only [Res.err, Res.ln, Res.words, List.map_nil, List.length_nil]
    clear hsp
    have c0 := (ErrAt.new w1 601 (k : Int)).c0
    go_wp2_with fail
    refine (awake_any _).mono ?_
    rintro e w2 ⟨rfl, hb⟩
    have B2 := Lib.hid (bl_next hb (bl_alloc B1.out _))
    clear hb c0
    go_wp2_with fail
    go_ret
    exact ⟨rfl, B2.out⟩
  | ok W =>
    have hgood := split_good hsp
    rw [hsp] at r1
    obtain ⟨A, c, rfl, hl20, hrd⟩ := r1
    simp only [Res.err, Res.ln, Res.words, List.length_map] at hl20 hrd ⊢
    have hS2 : S.size ≤ 16384 := by
      rcases Nat.lt_or_ge 16384 S.size with h | h
      · unfold splitS at hsp; rw [if_pos h] at hsp; cases hsp
      · exact h
    have HG := Lib.hid hgood
    have HRD := Lib.hid hrd
    clear hsp hgood hrd hSz
    have c0 := (ErrAt.new w1 0 0).c0
    go_wp2_with fail
    clear c0
    obtain ⟨U, hU⟩ : ∃ U, w1.alloc (.cells #[.int .i64 0, .int .i64 0] 39) = U := ⟨_, rfl⟩
    have BU := Lib.hid (show Below w.heap.size w U by rw [← hU]; exact bl_alloc B1.out _)
    have AU := Lib.hid (show ∀ g o, g < w1.heap.size → U.cell? ⟨g, o, none⟩ = w1.cell? ⟨g, o, none⟩ by rw [← hU]; exact fun g o hg => World.cell?_alloc_lt w1 _ ⟨g, o, none⟩ hg)
    rw [hU]
    clear hU
    go_loop [8, 9, 10, 11] (fun v8 v9 v10 v11 => ∃ i nx : Nat, i ≤ S.size + 1 ∧ v8 = .int .i64 (lineOf (bts S) i) ∧ v9 = .int .i64 (bgOf (bts S) i) ∧ v10 = .int .i64 nx ∧ v11 = .int .i64 i ∧ Cut W nx i) (fun _ _ _ v11 => S.size + 1 - (intOf v11).toNat)
    case atStart => exact ⟨0, 0, by omega, by rw [lineOf_zero]; rfl, rfl, rfl, rfl, cut_start W⟩
    case round =>
      obtain ⟨i, nx, hi, rfl, rfl, rfl, rfl, hcut⟩ := hrel
      have l1 := lineOf_le (bts S) i
      have b1 := bgOf_le (bts S) i
      obtain ⟨ln, hln⟩ : ∃ ln, lineOf (bts S) i = ln := ⟨_, rfl⟩
      obtain ⟨bg, hbg⟩ : ∃ bg, bgOf (bts S) i = bg := ⟨_, rfl⟩
      rw [hln] at l1 ⊢
      rw [hbg] at b1 ⊢
      have HLN := Lib.hid hln
      have HBG := Lib.hid hbg
      have HC := Lib.hid hcut
      clear hln hbg hcut
      by_cases hin : i ≤ S.size
      · go_wp2_with fail
        go_loop [10] (fun v10 => ∃ nx : Nat, v10 = .int .i64 nx ∧ Cut W nx i) (fun v10 => W.length - (intOf v10).toNat)
        case atStart => exact ⟨nx, rfl, HC.out⟩
        case round =>
          obtain ⟨nx, rfl, hcut⟩ := hrel
          have hnl := hcut.1
          have HC := Lib.hid hcut
          clear hcut
          -- what follows behind the inner loop
          by_cases hn : nx < W.length
          · obtain ⟨g, rfl, hg, a0, a1, a2⟩ := HRD.out nx hn
            have ab : ∀ o, U.cell? ⟨g, o, none⟩ = w1.cell? ⟨g, o, none⟩ := fun o => AU.out g o hg
            have d0 := (ab _).trans a0
            have d1 := (ab _).trans a1
            have d2 := (ab _).trans a2
            simp only [List.getElem_map, wdT] at d0 d1 d2
            clear a0 a1 a2 ab
            obtain ⟨x, hx⟩ : ∃ x, W[nx] = x := ⟨_, rfl⟩
            rw [hx] at d0 d1 d2
            have hxg : x.Good (bts S) := by rw [← hx]; exact (HG.out.1 _ (List.getElem_mem hn)).1
            have HX := Lib.hid hx
            have HXG := Lib.hid hxg
            clear hx hxg
            by_cases hai : x.a = i
            · obtain ⟨t1, t2⟩ := text_at HXG.out
              obtain ⟨tx, htx⟩ : ∃ tx, S.extract x.a x.b = tx := ⟨_, rfl⟩
              rw [htx] at d0 t1 t2
              rw [hai] at t1 t2
              have g1 := HXG.out.1
              have g2 := HXG.out.2.1
              have g3 := HXG.out.2.2.1
              have g4 := HXG.out.2.2.2
              rw [bts_len] at g2
              rw [hai, HLN.out] at g3
              rw [hai, HBG.out] at g4
              rw [g3] at d1
              rw [g4] at d2
              have hcu := Lib.hid (cut_hit HG.out HC.out hn (by rw [HX.out]; exact hai))
              have t3 : 1 ≤ tx.size := by omega
              have t4 : i + tx.size ≤ S.size := by omega
              have sl : ∀ w : World, (Instr.slice 9 (.string S) (some (.int .i64 (i : Int))) (some (.int .i64 ((i : Int) + (tx.size : Int)))) none).run Tryd.prog w = .ok (.string tx) w := fun w => by
                have := run_slice_string (P := Tryd.prog) w 9 S .i64 .i64 (i : Int) ((i : Int) + (tx.size : Int)) (by kernel_rfl) (by omega) (by omega) (by omega)
                rw [this, show ((i : Int) + (tx.size : Int)).toNat = i + tx.size by omega, show (i : Int).toNat = i by omega, t2]
              clear t1 t2 htx g1 g2 g3 g4 hai
              go_wp2_with fail
              go_round
              case rel => exact ⟨nx + 1, by go_num, hcu.out⟩
              case measure => simp [intOf]; omega
            · have hcu := Lib.hid (cut_next HG.out HC.out hn (by rw [HX.out]; exact hai))
              have hmis : ¬ (x.line = ln ∧ x.col = (i : Int) - bg + 1) := by
                rintro ⟨m1, m2⟩
                have g1 := HXG.out.1
                have g2 := HXG.out.2.1
                have g3 := HXG.out.2.2.1
                have g4 := HXG.out.2.2.2
                rw [bts_len] at g2
                exact hai (place_one (bts S) (by rw [bts_len]; omega) (by rw [bts_len]; omega) (by rw [← g3, m1, HLN.out]) (by rw [HBG.out]; omega))
              obtain ⟨xl, hxl⟩ : ∃ xl, x.line = xl := ⟨_, rfl⟩
              obtain ⟨xc, hxc⟩ : ∃ xc, x.col = xc := ⟨_, rfl⟩
              rw [hxl] at d1 hmis
              rw [hxc] at d2 hmis
              clear hxl hxc hai
              by_cases hle : xl = ln
              · subst hle
                have k1 : (xc == (i : Int) - bg + 1) = false := by simp; omega
                clear hmis
                by_cases hlt : i < S.size
                · have lk := lineOf_succ (bts S) (i := i) (by rw [bts_len]; exact hlt)
                  have bk := bgOf_succ (bts S) (i := i) (by rw [bts_len]; exact hlt)
                  rw [bts_get S hlt] at lk bk
                  rw [HLN.out] at lk
                  rw [HBG.out] at bk
                  have LK := Lib.hid lk
                  have BK := Lib.hid bk
                  clear lk bk
                  have hc8 := (S[i]).toNat_lt
                  by_cases h10 : S[i].toNat = 10
                  · have e10 : (((S[i].toNat : Nat) : Int) == 10) = true := by simp [h10]
                    go_wp2_with fail
                    go_round
                    case rel => exact ⟨i + 1, nx, by omega, by rw [LK.out, if_pos h10]; go_num, by rw [BK.out, if_pos h10]; go_num, rfl, by go_num, hcu.out⟩
                    case measure => simp [intOf]; omega
                  · have e10 : (((S[i].toNat : Nat) : Int) == 10) = false := by simp; omega
                    go_wp2_with fail
                    go_round
                    case rel => exact ⟨i + 1, nx, by omega, by rw [LK.out, if_neg h10]; rfl, by rw [BK.out, if_neg h10], rfl, by go_num, hcu.out⟩
                    case measure => simp [intOf]; omega
                · have he : S.size = i := by omega
                  have lk := lineOf_past (bts S)
                  have bk := bgOf_past (bts S)
                  rw [bts_len, he, HLN.out] at lk
                  rw [bts_len, he, HBG.out] at bk
                  have LK := Lib.hid lk
                  have BK := Lib.hid bk
                  clear lk bk he
                  go_wp2_with fail
                  go_round
                  case rel => exact ⟨i + 1, nx, by omega, by rw [LK.out], by rw [BK.out], rfl, by go_num, hcu.out⟩
                  case measure => simp [intOf]; omega
              · have k1 : ((xl : Int) == (ln : Int)) = false := by simp; omega
                clear hmis
                by_cases hlt : i < S.size
                · have lk := lineOf_succ (bts S) (i := i) (by rw [bts_len]; exact hlt)
                  have bk := bgOf_succ (bts S) (i := i) (by rw [bts_len]; exact hlt)
                  rw [bts_get S hlt] at lk bk
                  rw [HLN.out] at lk
                  rw [HBG.out] at bk
                  have LK := Lib.hid lk
                  have BK := Lib.hid bk
                  clear lk bk
                  have hc8 := (S[i]).toNat_lt
                  by_cases h10 : S[i].toNat = 10
                  · have e10 : (((S[i].toNat : Nat) : Int) == 10) = true := by simp [h10]
                    go_wp2_with fail
                    go_round
                    case rel => exact ⟨i + 1, nx, by omega, by rw [LK.out, if_pos h10]; go_num, by rw [BK.out, if_pos h10]; go_num, rfl, by go_num, hcu.out⟩
                    case measure => simp [intOf]; omega
                  · have e10 : (((S[i].toNat : Nat) : Int) == 10) = false := by simp; omega
                    go_wp2_with fail
                    go_round
                    case rel => exact ⟨i + 1, nx, by omega, by rw [LK.out, if_neg h10]; rfl, by rw [BK.out, if_neg h10], rfl, by go_num, hcu.out⟩
                    case measure => simp [intOf]; omega
                · have he : S.size = i := by omega
                  have lk := lineOf_past (bts S)
                  have bk := bgOf_past (bts S)
                  rw [bts_len, he, HLN.out] at lk
                  rw [bts_len, he, HBG.out] at bk
                  have LK := Lib.hid lk
                  have BK := Lib.hid bk
                  clear lk bk he
                  go_wp2_with fail
                  go_round
                  case rel => exact ⟨i + 1, nx, by omega, by rw [LK.out], by rw [BK.out], rfl, by go_num, hcu.out⟩
                  case measure => simp [intOf]; omega
          · have hcu := Lib.hid (cut_end hn HC.out (i + 1))
            by_cases hlt : i < S.size
            · have lk := lineOf_succ (bts S) (i := i) (by rw [bts_len]; exact hlt)
              have bk := bgOf_succ (bts S) (i := i) (by rw [bts_len]; exact hlt)
              rw [bts_get S hlt] at lk bk
              rw [HLN.out] at lk
              rw [HBG.out] at bk
              have LK := Lib.hid lk
              have BK := Lib.hid bk
              clear lk bk
              have hc8 := (S[i]).toNat_lt
              by_cases h10 : S[i].toNat = 10
              · have e10 : (((S[i].toNat : Nat) : Int) == 10) = true := by simp [h10]
                go_wp2_with fail
                go_round
                case rel => exact ⟨i + 1, nx, by omega, by rw [LK.out, if_pos h10]; go_num, by rw [BK.out, if_pos h10]; go_num, rfl, by go_num, hcu.out⟩
                case measure => simp [intOf]; omega
              · have e10 : (((S[i].toNat : Nat) : Int) == 10) = false := by simp; omega
                go_wp2_with fail
                go_round
                case rel => exact ⟨i + 1, nx, by omega, by rw [LK.out, if_neg h10]; rfl, by rw [BK.out, if_neg h10], rfl, by go_num, hcu.out⟩
                case measure => simp [intOf]; omega
            · have he : S.size = i := by omega
              have lk := lineOf_past (bts S)
              have bk := bgOf_past (bts S)
              rw [bts_len, he, HLN.out] at lk
              rw [bts_len, he, HBG.out] at bk
              have LK := Lib.hid lk
              have BK := Lib.hid bk
              clear lk bk he
              go_wp2_with fail
              go_round
              case rel => exact ⟨i + 1, nx, by omega, by rw [LK.out], by rw [BK.out], rfl, by go_num, hcu.out⟩
              case measure => simp [intOf]; omega
      · have he : i = S.size + 1 := by omega
        subst he
        have hnx := cut_last (L := bts S) (nx := nx) (by rw [bts_len]; exact HG.out) (by rw [bts_len]; exact HC.out)
        subst hnx
        go_wp2_with fail
        refine (awake_any _).mono ?_
        rintro e w2 ⟨rfl, hb⟩
        have B2 := Lib.hid (bl_next hb BU.out)
        clear hb
        go_wp2_with fail
        go_ret
        exact ⟨rfl, B2.out⟩
end Go.Proofs.YtmdgofbecmonhaaDoor
