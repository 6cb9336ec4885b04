/- Proved: the developers' Parse returns what parseS in Sy2 computes, in memory of its own, and turns nothing that was there before. Conditions: as each theorem states. -/
import Derived.Test.YtnahlpeckfcciaaDoorSyS
import Derived.Test.YtnahlpeckfcciaaDoorTkN
namespace Go.Proofs.YtnahlpeckfcciaaDoor
open Go.RowKit

theorem chk_fine {n : Nat} {g : St} {gs : List St} (h : faultK n g = 0) : chk n (g :: gs) = chk (n + 1) gs := by
  unfold faultK at h
  rw [chk]
  by_cases h1 : 256 ≤ n
  · rw [if_pos h1] at h; exact absurd h (by decide)
  · rw [if_neg h1] at h ⊢
    by_cases h2 : knownK (wordK (bts g.word)) = false
    · rw [if_pos h2] at h; exact absurd h (by decide)
    · rw [if_neg h2] at h ⊢
      by_cases h3 : argsK (wordK (bts g.word)) g.args.length = false
      · rw [if_pos h3] at h; exact absurd h (by decide)
      · rw [if_neg h3]
theorem chk_fault {n : Nat} {g : St} {gs : List St} (h : ¬ faultK n g = 0) : chk n (g :: gs) = some (faultK n g, g.line) := by
  unfold faultK at h ⊢
  rw [chk]
  by_cases h1 : 256 ≤ n
  · rw [if_pos h1, if_pos h1]
  · rw [if_neg h1] at h ⊢
    rw [if_neg h1]
    by_cases h2 : knownK (wordK (bts g.word)) = false
    · rw [if_pos h2, if_pos h2]
    · rw [if_neg h2] at h ⊢
      rw [if_neg h2]
      by_cases h3 : argsK (wordK (bts g.word)) g.args.length = false
      · rw [if_pos h3, if_pos h3]
      · rw [if_neg h3] at h; exact absurd rfl h
set_option linter.unusedSimpArgs false in
set_option linter.unusedVariables false in
set_option maxRecDepth 100000 in
set_option maxHeartbeats 12800000 in
theorem sParse_any (s : ByteArray) (w : World) (hs : s.size ≤ maxLen) : Calls Tryd.prog 22 #[ .string s ] w (PaP s w) := by
  obtain ⟨PR, hPR⟩ : ∃ P, parseS s = P := ⟨_, rfl⟩
  unfold PaP
  rw [hPR]
  have HPR := Lib.hid hPR
  clear hPR
  have E0 := Lib.hid (ErrAt.new w 0 0)
  have HS := Lib.hid hs
  clear hs
  go_enter Tryd.func22, Tryd.ntmps22
  go_wp2_with fail
  refine (tSplit_any s _ HS.out).mono ?_
  rintro e w1 ⟨vw, rfl, hown, hB⟩
  obtain ⟨R, hR⟩ : ∃ R, splitS s = R := ⟨_, rfl⟩
  have hrd := split_rd hown
  rw [hR] at hown hrd
  rw [hR]
  have hB1 : Below w.heap.size w w1 := ((Below.refl _ w).alloc (Nat.le_refl _) _).trans (hB.mono (by simp))
  have hE1 : ErrAt w1 w.heap.size 0 0 := (hB.block _ (by simp)).trans E0.out
  have B1 := Lib.hid hB1
  have E1 := Lib.hid hE1
  have RD := Lib.hid hrd
  clear hown hB hB1 hE1 hrd
  cases R with
  | bad k =>
    have hPS := HPR.out.symm.trans (parse_bad hR)
    subst hPS
    simp only [Res.err, Res.ln]
    have hlt := E1.out.lt
    have hEU : ErrAt (w1.alloc (.cells #[.int .i64 601, .int .i64 (k : Int)] 49)) w.heap.size 0 0 := (Below.heap_alloc _ _ _ hlt).trans E1.out
    have hFU := ErrAt.new w1 601 k
    have hBU : Below w.heap.size w (w1.alloc (.cells #[.int .i64 601, .int .i64 (k : Int)] 49)) := B1.out.alloc B1.out.size _
    go_wp2_with fail
    obtain ⟨U, hU⟩ : ∃ U, w1.alloc (.cells #[.int .i64 601, .int .i64 (k : Int)] 49) = U := ⟨_, rfl⟩
    rw [hU] at hEU hFU hBU ⊢
    have c0 := hEU.c0
    have c1 := hEU.c1
    have f0 := hEU.f0
    have f1 := hEU.f1
    have d0 := hFU.c0
    have d1 := hFU.c1
    have EU := Lib.hid hEU
    have BU := Lib.hid hBU
    clear hU hEU hBU hFU
    go_region
    all_goals go_wp2_with fail
    all_goals
      have hP := EU.out.put 601 k
      exact bodyPost_ret (v := .tuple #[.slice none 0 0, .agg #[.int .i64 601, .int .i64 (k : Int)]]) (by simp [results, Tryd.results22, go_sem, hP.c0, hP.c1]) rfl ⟨_, rfl, RdS.nil _, (Below.setCell (Below.setCell BU.out (Nat.le_refl _) _) (Nat.le_refl _) _).drew⟩
  | ok l =>
    have hwl : (l.map (wdT s)).length ≤ 16384 := by
      have := split_count s
      rw [hR] at this
      rw [List.length_map]; exact this
    have hE : ∀ e k, chk 0 (grp (l.map (wdT s))) = some (e, k) → PR = ⟨[], e, k⟩ := fun e k h => HPR.out.symm.trans (parse_err hR h)
    have hO : chk 0 (grp (l.map (wdT s))) = none → PR = ⟨grp (l.map (wdT s)), 0, 0⟩ := fun h => HPR.out.symm.trans (parse_ok hR h)
    have RD2 : Hid (RdW w1 vw (l.map (wdT s))) := RD
    clear RD
    obtain ⟨ws, hws⟩ : ∃ ws, l.map (wdT s) = ws := ⟨_, rfl⟩
    rw [hws] at hwl hE hO RD2
    simp only [Res.err, Res.ln]
    have HER := Lib.hid hE
    have HOK := Lib.hid hO
    clear hE hO hws hR HPR
    have hlt := E1.out.lt
    have hEU : ErrAt (w1.alloc (.cells #[.int .i64 0, .int .i64 0] 49)) w.heap.size 0 0 := (Below.heap_alloc _ _ _ hlt).trans E1.out
    have hBU : Below w.heap.size w (w1.alloc (.cells #[.int .i64 0, .int .i64 0] 49)) := B1.out.alloc B1.out.size _
    have hRU : RdW (w1.alloc (.cells #[.int .i64 0, .int .i64 0] 49)) vw ws := RD2.out.below ((Below.refl _ _).alloc (Nat.le_refl _) _) (Nat.le_refl _)
    go_wp2_with fail
    refine (statements_any vw ws _ hRU hwl).mono ?_
    rintro e U ⟨v, vals, rfl, hout, hbu⟩
    have hEU2 : ErrAt U w.heap.size 0 0 := (hbu.block _ (by simp; omega)).trans hEU
    have hBU2 : Below w.heap.size w U := hBU.trans (hbu.mono hBU.size)
    have hll : (grp ws).length ≤ 16384 := by have := grp_count ws; omega
    have hla : ∀ g ∈ grp ws, g.args.length ≤ 16384 := fun g hg => by have := grp_args ws g hg; omega
    have hrs := hout.rd (by omega) (fun g hg => by have := hla g hg; omega)
    have hkU : w.heap.size < U.heap.size := hEU2.lt
    have EU := Lib.hid hEU2
    have BU := Lib.hid hBU2
    have RU := Lib.hid hrs
    have hBu : w.heap.size < (w1.alloc (.cells #[.int .i64 0, .int .i64 0] 49)).heap.size := by simp; omega
    have OU := Lib.hid hout
    clear hEU hBU hRU hout hbu hEU2 hBU2 hlt RD2 B1 E1
    obtain ⟨A, c, rfl, hl2, _⟩ := hrs
    obtain ⟨G, hG⟩ : ∃ G, grp ws = G := ⟨_, rfl⟩
    rw [hG] at hll hla RU OU HER HOK hl2 ⊢
    clear hG
    have HLA := Lib.hid hla
    clear hla
    go_wp2_with fail
    go_loopw [23] (fun i wr => ∃ k : Nat, k ≤ G.length ∧ i = .int .i64 k ∧ Below U.heap.size U wr ∧ chk k (G.drop k) = chk 0 G) (fun i _ => G.length - (intOf i).toNat)
    case atStart => exact ⟨0, Nat.zero_le _, rfl, Below.refl _ _, rfl⟩
    case round =>
      obtain ⟨k, hkl, rfl, hb, hck⟩ := hrel
      have hEX : ErrAt wr w.heap.size 0 0 := (hb.block _ hkU).trans EU.out
      have HB := Lib.hid hb
      by_cases hlt : k < G.length
      · obtain ⟨_, _, ea, _, hk⟩ := RU.out.below hb (Nat.le_refl _)
        injection ea with ea _ ec
        subst ea ec
        obtain ⟨g0, o, va, rfl, hg0, a0, a1, a2, a3⟩ := hk k hlt
        obtain ⟨A3, c3, rfl, hl3, ha⟩ := a3
        have hla := HLA.out _ (List.getElem_mem hlt)
        rw [List.drop_eq_getElem_cons hlt] at hck
        obtain ⟨g, hgk⟩ : ∃ g, G[k] = g := ⟨_, rfl⟩
        rw [hgk] at a0 a1 a2 hla hck
        clear ha hl3 hk hgk
        have hV := heap_alloc_new wr (.cells #[.int .i64 g.line, .string g.word, .slice A3 g.args.length c3] 55)
        have hlV := lt_of_block hV
        have hBV : Below U.heap.size U (wr.alloc (.cells #[.int .i64 g.line, .string g.word, .slice A3 g.args.length c3] 55)) := hb.alloc hb.size _
        have HBV := Lib.hid hBV
        have HEV := Lib.hid ((Below.heap_alloc wr (.cells #[.int .i64 g.line, .string g.word, .slice A3 g.args.length c3] 55) _ (hEX.lt)).trans hEX)
        clear hBV hb hEX
        go_wp2_with fail
        refine (fault_any g A3 c3 k _ (by omega) hla).mono ?_
        rintro e w2 ⟨rfl, hb2⟩
        have hc0 : w2.cell? ⟨wr.heap.size, 0, none⟩ = some (.int .i64 g.line) := (hb2.cell (p := ⟨wr.heap.size, 0, none⟩) hlV).trans (cell_of_row _ _ 0 _ _ _ hV)
        have hBW : Below U.heap.size U w2 := bl_next hb2 HBV.out
        have hEW : ErrAt w2 w.heap.size 0 0 := (hBW.block _ hkU).trans EU.out
        have HBW := Lib.hid hBW
        clear HEV hV hlV hb2 hBW a0 a1 a2
        by_cases hf : faultK k g = 0
        · rw [hf]
          rw [chk_fine hf] at hck
          have HCK := Lib.hid hck
          clear hck hEW hf hc0
          go_wp2_with fail
          go_roundw
          case rel => exact ⟨k + 1, by omega, by go_num, HBW.out, HCK.out⟩
          case measure => simp [intOf]; omega
        · rw [chk_fault hf] at hck
          obtain ⟨fe, hfe⟩ : ∃ x, faultK k g = x := ⟨_, rfl⟩
          rw [hfe] at hf hck ⊢
          have hPR := HER.out _ _ hck.symm
          subst hPR
          clear hck HER HOK
          have c0 := hEW.c0
          have c1 := hEW.c1
          have f0 := hEW.f0
          have f1 := hEW.f1
          have EW := Lib.hid hEW
          have BW := Lib.hid (show Below w.heap.size w w2 from BU.out.trans (HBW.out.mono BU.out.size))
          clear hEW hfe
          go_wp2_with fail
          go_region
          all_goals go_wp2_with fail
          all_goals
            have hP := EW.out.put fe g.line
            exact bodyPost_ret (v := .tuple #[.slice none 0 0, .agg #[.int .i64 fe, .int .i64 g.line]]) (by simp [results, Tryd.results22, go_sem, hP.c0, hP.c1]) rfl ⟨_, rfl, RdS.nil _, (Below.setCell (Below.setCell BW.out (Nat.le_refl _) _) (Nat.le_refl _) _).drew⟩
      · have hke : k = G.length := by omega
        subst hke
        rw [List.drop_eq_nil_of_le (Nat.le_refl _)] at hck
        have hPR := HOK.out hck.symm
        subst hPR
        clear hck HER HOK
        have c0 := hEX.c0
        have c1 := hEX.c1
        have f0 := hEX.f0
        have f1 := hEX.f1
        have EX := Lib.hid hEX
        have BX := Lib.hid (show Below w.heap.size w wr from BU.out.trans (HB.out.mono BU.out.size))
        have OX := Lib.hid (OU.out.next HB.out)
        clear hEX hb
        go_wp2_with fail
        have hP := EX.out.put 0 0
        have hRS := ((OX.out.set (a := ⟨w.heap.size, 0, none⟩) hBu (.int .i64 0)).set (a := ⟨w.heap.size, 1, none⟩) hBu (.int .i64 0)).rd (by omega) (fun g hg => by have := HLA.out g hg; omega)
        exact bodyPost_ret (v := .tuple #[.slice A G.length c, .agg #[.int .i64 0, .int .i64 0]]) (by simp [results, Tryd.results22, go_sem, hP.c0, hP.c1]) rfl ⟨_, rfl, hRS, Below.setCell (Below.setCell BX.out (Nat.le_refl _) _) (Nat.le_refl _) _⟩
end Go.Proofs.YtnahlpeckfcciaaDoor
