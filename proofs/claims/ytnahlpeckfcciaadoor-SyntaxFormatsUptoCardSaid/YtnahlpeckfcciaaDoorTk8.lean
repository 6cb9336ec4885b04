/- Proved: the reference's Split returns the words that Tk1 names, in memory of its own, and turns nothing that was there before. Conditions: as each theorem states. -/
import Derived.Test.YtnahlpeckfcciaaDoorTk4
import Derived.OwnWalk
import Derived.OneCell
namespace Go.Proofs.YtnahlpeckfcciaaDoor
open Go.RowKit

/-- The cells of words. -/
def wcell (s : ByteArray) (x : Wd) : List Value := [.string (s.extract x.a x.b), .int .i64 x.line, .int .i64 x.col]
def wcells (s : ByteArray) (l : List Wd) : List Value := l.flatMap (wcell s)
theorem wcells_snoc (s : ByteArray) (l : List Wd) (x : Wd) : wcells s (l ++ [x]) = wcells s l ++ wcell s x := by simp [wcells]
def Res.words : Res → List Wd
  | .ok l => l
  | .bad _ => []
def Res.err : Res → Int
  | .ok _ => 0
  | .bad _ => 601
def Res.ln : Res → Int
  | .ok _ => 0
  | .bad k => k
/-- A block that holds an error of a source. -/
def ErrAt (W : World) (b : Nat) (e l : Int) : Prop := W.heap[b]? = some (.cells #[.int .i64 e, .int .i64 l] 49 (0, 0))
theorem ErrAt.c0 {W : World} {b : Nat} {e l : Int} (h : ErrAt W b e l) : W.cell? ⟨b, 0, none⟩ = some (.int .i64 e) := by
  have h' : W.heap[b]? = some (.cells #[.int .i64 e, .int .i64 l] 49 (0, 0)) := h
  simp [World.cell?, h']
theorem ErrAt.c1 {W : World} {b : Nat} {e l : Int} (h : ErrAt W b e l) : W.cell? ⟨b, 1, none⟩ = some (.int .i64 l) := by
  have h' : W.heap[b]? = some (.cells #[.int .i64 e, .int .i64 l] 49 (0, 0)) := h
  simp [World.cell?, h']
theorem ErrAt.f0 {W : World} {b : Nat} {e l : Int} (h : ErrAt W b e l) : W.frozen? ⟨b, 0, none⟩ = false := by
  have h' : W.heap[b]? = some (.cells #[.int .i64 e, .int .i64 l] 49 (0, 0)) := h
  simp [World.frozen?, h']
theorem ErrAt.f1 {W : World} {b : Nat} {e l : Int} (h : ErrAt W b e l) : W.frozen? ⟨b, 1, none⟩ = false := by
  have h' : W.heap[b]? = some (.cells #[.int .i64 e, .int .i64 l] 49 (0, 0)) := h
  simp [World.frozen?, h']
theorem ErrAt.lt {W : World} {b : Nat} {e l : Int} (h : ErrAt W b e l) : b < W.heap.size := lt_of_block h
theorem ErrAt.new (W : World) (e l : Int) : ErrAt (W.alloc (.cells #[.int .i64 e, .int .i64 l] 49)) W.heap.size e l := heap_alloc_new _ _
theorem ErrAt.put {W : World} {b : Nat} {e l : Int} (h : ErrAt W b e l) (x y : Int) : ErrAt ((W.setCell ⟨b, 0, none⟩ (.int .i64 x)).setCell ⟨b, 1, none⟩ (.int .i64 y)) b x y := by
  have h1 := heap_setCell_same W b 0 _ _ (.int .i64 x) h
  exact heap_setCell_same _ b 1 _ _ (.int .i64 y) h1
/-- What Split leaves. -/
def SplitP (s : ByteArray) (W : World) (e : Ending) (w' : World) : Prop := ∃ v : Value, e = .returned (.tuple #[v, .agg #[.int .i64 (splitS s).err, .int .i64 (splitS s).ln]]) ∧
  w'.ownsRow W.heap.size 99 3 v (splitS s).words.length (wcells s (splitS s).words) ∧ Below W.heap.size W w'
theorem info_word : (Tryd.prog.info? 99).map (fun i => (i.zero, i.size, i.bytes)) = some (some (.agg #[.string ⟨#[]⟩, .int .i64 0, .int .i64 0]), 3, 32) := by kernel_rfl
theorem under_words : Tryd.prog.underlying 92 = some (.slice 99) := by kernel_rfl
theorem word_news (wr : World) (s : ByteArray) (x : Wd) : ∀ k u, (wcell s x)[k]? = some u → (wr.alloc (.cells #[.string (s.extract x.a x.b), .int .i64 x.line, .int .i64 x.col] 99)).cell? ((⟨wr.heap.size, 0, none⟩ : Addr).add k) = some u := by
  intro k u hu
  match k, hu with
  | 0, hu => simp [wcell] at hu; subst hu; simp [Addr.add]
  | 1, hu => simp [wcell] at hu; subst hu; simp [Addr.add]
  | 2, hu => simp [wcell] at hu; subst hu; simp [Addr.add]
  | k + 3, hu => simp [wcell] at hu
theorem word_ones (s : ByteArray) (x : Wd) : ∀ u ∈ wcell s x, u.oneCell' = true := by
  intro u hu
  simp [wcell] at hu
  rcases hu with rfl | rfl | rfl <;> rfl
/-- A word more, behind the append. -/
theorem word_more {w wr w1 : World} {s : ByteArray} {out : List Wd} {x : Wd} {v v' : Value} {o : Obj} {b : Nat} {e l : Int} (hlt : w.heap.size ≤ b) (hE : ErrAt wr b e l) (hB : Below w.heap.size w wr)
    (hown : wr.ownsRow (b + 1) 99 3 v out.length (wcells s out)) (hown' : w1.ownsRow (b + 1) 99 3 v' (out.length + 1) (wcells s out ++ wcell s x)) (hgrow : (wr.alloc o).grownBy w1 v.ownBlock) :
    w1.ownsRow (b + 1) 99 3 v' (out ++ [x]).length (wcells s (out ++ [x])) ∧ ErrAt w1 b e l ∧ Below w.heap.size w w1 := by
  have hb := hE.lt
  have hs := hB.size
  refine ⟨by rw [wcells_snoc, List.length_append]; exact hown', ?_, (hB.alloc (by omega) o).grown hgrow (by simp; omega) (fun j hj => by have := (hown.lt j hj).1; omega)⟩
  have h1 : (wr.alloc o).heap[b]? = wr.heap[b]? := Below.heap_alloc _ _ _ hb
  have h2 := hgrow.block b (by simp; omega) (fun h => by have := (hown.lt b h.symm).1; omega)
  exact (h2.trans h1).trans hE
theorem owns_base {w : World} {base base' : Nat} {e : TypeId} {size : Nat} {v : Value} {n : Nat} {xs : List Value} (h : w.ownsRow base e size v n xs) (hb : base' ≤ base) : w.ownsRow base' e size v n xs := by
  obtain ⟨h1, h2⟩ := h
  refine ⟨h1, ?_⟩
  rcases h2 with h2 | ⟨g, cap, cur, a, b, c⟩
  · exact .inl h2
  · exact .inr ⟨g, cap, cur, a, by omega, c⟩
set_option linter.unusedSimpArgs false in
set_option linter.unusedVariables false in
set_option maxRecDepth 100000 in
set_option maxHeartbeats 12800000 in
theorem rSplit_any (s : ByteArray) (w : World) (hs : s.size ≤ maxLen) :
    Calls Tryd.prog 42 #[ .string s ] w (SplitP s w) := by
  unfold maxLen at hs
  obtain ⟨R, hR⟩ : ∃ R, splitS s = R := ⟨_, rfl⟩
  unfold SplitP
  rw [hR]
  have E0 := Lib.hid (ErrAt.new w 0 0)
  have B0 := Lib.hid (show Below w.heap.size w (w.alloc (.cells #[.int .i64 0, .int .i64 0] 49)) from (Below.refl _ _).alloc (Nat.le_refl _) _)
  by_cases hbig : 16384 < s.size
  · have hRb : R = .bad 0 := by rw [← hR, splitS, if_pos hbig]
    subst hRb
    clear hR
    go_enter Tryd.func42, Tryd.ntmps42
    go_wp2_with fail
    exact bodyPost_ret (v := .tuple #[.slice none 0 0, .agg #[.int .i64 601, .int .i64 0]]) (by simp [results, Tryd.results42, go_sem]) rfl ⟨_, rfl, World.ownsRow_nil _ _ _ _, (Below.refl _ _).alloc (Nat.le_refl _) _⟩
  · have hRr : run ((bts s).drop 0) 0 1 0 false none [] = R := by rw [← hR, splitS, if_neg hbig]; rfl
    have HR0 := Lib.hid hRr
    clear hR hRr
    obtain ⟨i0, hi, hz0, hz1, hz2⟩ := info_parts info_word
    have HI := Lib.hid hi
    have HZ0 := Lib.hid hz0
    have HZ1 := Lib.hid hz1
    have HZ2 := Lib.hid hz2
    clear hi hz0 hz1 hz2
    go_enter Tryd.func42, Tryd.ntmps42
    go_wp2_with fail
    go_loopw [4, 5, 6, 7, 8] (fun v5 v6 v7 v8 v9 wr => ∃ (v : Value) (i line bg : Nat) (com : Bool) (out : List Wd), v = v5 ∧ i ≤ s.size ∧ bg ≤ i ∧ line ≤ i + 1 ∧ out.length ≤ i ∧ v6 = .int .i64 line ∧ v7 = .int .i64 bg ∧ v8 = .bool com ∧ v9 = .int .i64 i ∧
      wr.ownsRow (w.heap.size + 1) 99 3 v out.length (wcells s out) ∧ ErrAt wr w.heap.size 0 0 ∧ Below w.heap.size w wr ∧ run ((bts s).drop i) i line bg com none out = R) (fun _ _ _ _ v9 _ => s.size - (intOf v9).toNat)
    case atStart => exact ⟨_, 0, 1, 0, false, [], rfl, by omega, by omega, by omega, by simp, rfl, rfl, rfl, rfl, World.ownsRow_nil _ _ _ _, E0.out, B0.out, HR0.out⟩
    case round =>
      obtain ⟨v, i, line, bg, com, out, rfl, hi, hbg, hln, hol, rfl, rfl, rfl, rfl, hown, hE, hB, hrun⟩ := hrel
      have HOWN := Lib.hid hown
      have HE := Lib.hid hE
      have HB := Lib.hid hB
      have HRUN := Lib.hid hrun
      clear hown hE hB hrun
      by_cases hlt : i < s.size
      · have hc := (s[i]).toNat_lt
        have hd := bts_drop s hlt
        have HD := Lib.hid hd
        clear hd
        by_cases h10 : s[i].toNat = 10
        · have e10 : (((s[i].toNat : Nat) : Int) == 10) = true := by simp [h10]
          have HN : run ((bts s).drop (i + 1)) (i + 1) (line + 1) (i + 1) false none out = R := by rw [← HRUN.out, HD.out, run_line h10]; rfl
          have HN' := Lib.hid HN
          clear HN
          go_wp2_with fail
          go_roundw
          case rel => exact ⟨_, i + 1, line + 1, i + 1, false, out, rfl, by omega, by omega, by omega, by omega, by go_num, by go_num, rfl, by go_num, HOWN.out, HE.out, HB.out, HN'.out⟩
          case measure => simp [intOf]; omega
        · have e10 : (((s[i].toNat : Nat) : Int) == 10) = false := by simp; omega
          cases com
          · by_cases h35 : s[i].toNat = 35
            · have e35 : (((s[i].toNat : Nat) : Int) == 35) = true := by simp [h35]
              have HN' := Lib.hid (show run ((bts s).drop (i + 1)) (i + 1) line bg true none out = R by rw [← HRUN.out, HD.out, run_hash h35]; rfl)
              go_wp2_with fail
              go_roundw
              case rel => exact ⟨_, i + 1, line, bg, true, out, rfl, by omega, by omega, by omega, by omega, rfl, rfl, rfl, by go_num, HOWN.out, HE.out, HB.out, HN'.out⟩
              case measure => simp [intOf]; omega
            · have e35 : (((s[i].toNat : Nat) : Int) == 35) = false := by simp; omega
              cases hpm : pmB s[i].toNat
              · have HP := Lib.hid hpm
                clear hpm
                have hRb : R = .bad line := by
                  have hp := HP.out
                  have hq : ¬ (s[i].toNat = 32 ∨ s[i].toNat = 9 ∨ s[i].toNat = 10 ∨ 33 ≤ s[i].toNat ∧ s[i].toNat ≤ 126) := fun h => by rw [pmB_iff.2 h] at hp; cases hp
                  rw [← HRUN.out, HD.out, run_bad (wb_not.2 (by omega)) (by omega) (by omega) (by omega) (by omega)]
                subst hRb
                have hE0 := HE.out
                have c0 := hE0.c0
                have c1 := hE0.c1
                have f0 := hE0.f0
                have f1 := hE0.f1
                clear hE0
                go_wp2_with (first | (go_at_call 58; (with_reducible refine (permitted_any s[i].toNat _ hc).mono ?_); rintro e w' ⟨rfl, rfl⟩; rw [HP.out]))
                have hP := HE.out.put 601 line
                exact bodyPost_ret (v := .tuple #[.slice none 0 0, .agg #[.int .i64 601, .int .i64 line]]) (by simp [results, Tryd.results42, go_sem, hP.c0, hP.c1]) rfl
                  ⟨_, rfl, World.ownsRow_nil _ _ _ _, Below.setCell (Below.setCell HB.out (Nat.le_refl _) _) (Nat.le_refl _) _⟩
              · have HP := Lib.hid hpm
                clear hpm
                cases hw : wb s[i].toNat
                · have HW := Lib.hid hw
                  clear hw
                  have hg : s[i].toNat = 32 ∨ s[i].toNat = 9 := by
                    have h1 := pmB_iff.1 HP.out
                    have h2 := wb_not.1 HW.out
                    omega
                  have HN' := Lib.hid (show run ((bts s).drop (i + 1)) (i + 1) line bg false none out = R by rw [← HRUN.out, HD.out, run_gap hg]; rfl)
                  clear hg
                  go_wp2_with (first | (go_at_call 58; (with_reducible refine (permitted_any s[i].toNat _ hc).mono ?_); rintro e w' ⟨rfl, rfl⟩; rw [HP.out]) | (go_at_call 59; (with_reducible refine (inWord_any s[i].toNat _ hc).mono ?_); rintro e w' ⟨rfl, rfl⟩; rw [HW.out]))
                  go_roundw
                  case rel => exact ⟨_, i + 1, line, bg, false, out, rfl, by omega, by omega, by omega, by omega, rfl, rfl, rfl, by go_num, HOWN.out, HE.out, HB.out, HN'.out⟩
                  case measure => simp [intOf]; omega
                · have HW := Lib.hid hw
                  clear hw
                  go_wp2_with (first | (go_at_call 58; (with_reducible refine (permitted_any s[i].toNat _ hc).mono ?_); rintro e w' ⟨rfl, rfl⟩; rw [HP.out]) | (go_at_call 59; (with_reducible refine (inWord_any s[i].toNat _ hc).mono ?_); rintro e w' ⟨rfl, rfl⟩; rw [HW.out]))
                  go_loop [10] (fun k => ∃ j : Nat, i ≤ j ∧ j ≤ s.size ∧ k = .int .i64 j ∧ (j = i ∨ run ((bts s).drop j) j line bg false (some i) out = R)) (fun k => s.size - (intOf k).toNat)
                  case atStart => exact ⟨i, Nat.le_refl _, by omega, rfl, .inl rfl⟩
                  case round =>
                    obtain ⟨j, hij, hjs, rfl, hrj⟩ := hrel
                    have HRJ := Lib.hid hrj
                    clear hrj
                    by_cases hjl : j < s.size
                    · have hcj := (s[j]).toNat_lt
                      have HDJ := Lib.hid (bts_drop s hjl)
                      cases hwj : wb s[j].toNat
                      · have HWJ := Lib.hid hwj
                        clear hwj
                        have hlt2 : i < j := by
                          rcases Nat.lt_or_eq_of_le hij with h | h
                          · exact h
                          · subst h; have h1 := HW.out; rw [HWJ.out] at h1; cases h1
                        have HN' := Lib.hid (show run ((bts s).drop j) j line bg false none (out ++ [⟨i, j, line, (i : Int) - bg + 1⟩]) = R by
                          rcases HRJ.out with h | h
                          · omega
                          · rw [← h]; exact (run_flush (l := (bts s).drop j) (i := j) (line := line) (bg := bg) (com := false) (st := some i) (out := out) (.inr fun c m hcm => by rw [HDJ.out] at hcm; injection hcm with h1 h2; rw [← h1]; exact HWJ.out)).symm)
                        have q0 := HE.out.lt
                        have q2 := HB.out.size
                        have HOA := Lib.hid (HOWN.out.alloc (.cells #[.string (s.extract i j), .int .i64 line, .int .i64 ((i : Int) - bg + 1)] 99))
                        go_wp2_with (first | (go_at_call 59; (with_reducible refine (inWord_any s[j].toNat _ hcj).mono ?_); rintro e w' ⟨rfl, rfl⟩; rw [HWJ.out]) | (at_builtin; refine wpList_append_own _ rfl (.tmp 56) (.tmp 67) 92 rfl (w.heap.size + 1) 99 i0 (.agg #[.string ⟨#[]⟩, .int .i64 0, .int .i64 0]) 3 32 under_words HI.out HZ0.out HZ1.out HZ2.out rfl (by decide) _ out.length (wcells s out) rfl HOA.out ⟨wr.heap.size, 0, none⟩ 1 1 (wcell s ⟨i, j, line, (i : Int) - bg + 1⟩) rfl rfl (word_news wr s ⟨i, j, line, (i : Int) - bg + 1⟩) (word_ones s _) (by unfold maxLen; omega) (by omega) (by simp; omega) ?_))
                        intro v' w1 hown' hgrow _
                        obtain ⟨x1, x2, x3⟩ := word_more (Nat.le_refl _) HE.out HB.out HOWN.out hown' hgrow
                        have X1 := Lib.hid x1
                        have X2 := Lib.hid x2
                        have X3 := Lib.hid x3
                        clear x1 x2 x3 hown' hgrow q0 q2
                        go_wp2_with fail
                        go_roundw
                        case rel => exact ⟨_, j, line, bg, false, out ++ [⟨i, j, line, (i : Int) - bg + 1⟩], rfl, by omega, by omega, by omega, by simp; omega, rfl, rfl, rfl, rfl, X1.out, X2.out, X3.out, HN'.out⟩
                        case measure => simp [intOf]; omega
                      · have HWJ := Lib.hid hwj
                        clear hwj
                        have HN' := Lib.hid (show run ((bts s).drop (j + 1)) (j + 1) line bg false (some i) out = R by
                          rcases HRJ.out with h | h
                          · subst h; rw [← HRUN.out, HDJ.out, run_word HWJ.out]; rfl
                          · rw [← h, HDJ.out, run_word HWJ.out]; rfl)
                        go_wp2_with (first | (go_at_call 59; (with_reducible refine (inWord_any s[j].toNat _ hcj).mono ?_); rintro e w' ⟨rfl, rfl⟩; rw [HWJ.out]))
                        go_round
                        case rel => exact ⟨j + 1, by omega, by omega, by go_num, .inr HN'.out⟩
                        case measure => simp [intOf]; omega
                    · have hje : j = s.size := by omega
                      have hlt2 : i < j := by omega
                      have HN' := Lib.hid (show run ((bts s).drop j) j line bg false none (out ++ [⟨i, j, line, (i : Int) - bg + 1⟩]) = R by
                        rcases HRJ.out with h | h
                        · omega
                        · rw [← h]; exact (run_flush (l := (bts s).drop j) (i := j) (line := line) (bg := bg) (com := false) (st := some i) (out := out) (.inr fun c m hcm => by rw [bts_end s (by omega)] at hcm; cases hcm)).symm)
                      clear hje
                      have q0 := HE.out.lt
                      have q2 := HB.out.size
                      have HOA := Lib.hid (HOWN.out.alloc (.cells #[.string (s.extract i j), .int .i64 line, .int .i64 ((i : Int) - bg + 1)] 99))
                      go_wp2_with (first | fail | (at_builtin; refine wpList_append_own _ rfl (.tmp 56) (.tmp 67) 92 rfl (w.heap.size + 1) 99 i0 (.agg #[.string ⟨#[]⟩, .int .i64 0, .int .i64 0]) 3 32 under_words HI.out HZ0.out HZ1.out HZ2.out rfl (by decide) _ out.length (wcells s out) rfl HOA.out ⟨wr.heap.size, 0, none⟩ 1 1 (wcell s ⟨i, j, line, (i : Int) - bg + 1⟩) rfl rfl (word_news wr s ⟨i, j, line, (i : Int) - bg + 1⟩) (word_ones s _) (by unfold maxLen; omega) (by omega) (by simp; omega) ?_))
                      intro v' w1 hown' hgrow _
                      obtain ⟨x1, x2, x3⟩ := word_more (Nat.le_refl _) HE.out HB.out HOWN.out hown' hgrow
                      have X1 := Lib.hid x1
                      have X2 := Lib.hid x2
                      have X3 := Lib.hid x3
                      clear x1 x2 x3 hown' hgrow q0 q2
                      go_wp2_with fail
                      go_roundw
                      case rel => exact ⟨_, j, line, bg, false, out ++ [⟨i, j, line, (i : Int) - bg + 1⟩], rfl, by omega, by omega, by omega, by simp; omega, rfl, rfl, rfl, rfl, X1.out, X2.out, X3.out, HN'.out⟩
                      case measure => simp [intOf]; omega
          · have HN' := Lib.hid (show run ((bts s).drop (i + 1)) (i + 1) line bg true none out = R by rw [← HRUN.out, HD.out, run_com h10]; rfl)
            go_wp2_with fail
            go_roundw
            case rel => exact ⟨_, i + 1, line, bg, true, out, rfl, by omega, by omega, by omega, by omega, rfl, rfl, rfl, by go_num, HOWN.out, HE.out, HB.out, HN'.out⟩
            case measure => simp [intOf]; omega
      · have hRb : R = .ok out := by rw [← HRUN.out, bts_end s (by omega)]; rfl
        subst hRb
        have hE0 := HE.out
        have c0 := hE0.c0
        have c1 := hE0.c1
        have f0 := hE0.f0
        have f1 := hE0.f1
        clear hE0
        go_wp2_with fail
        have hP := HE.out.put 0 0
        exact bodyPost_ret (v := .tuple #[v, .agg #[.int .i64 0, .int .i64 0]]) (by simp [results, Tryd.results42, go_sem, hP.c0, hP.c1]) rfl
          ⟨_, rfl, owns_base (ownsRow_setCell_below (ownsRow_setCell_below HOWN.out (by simp) _) (by simp) _) (by omega), Below.setCell (Below.setCell HB.out (Nat.le_refl _) _) (Nat.le_refl _) _⟩
end Go.Proofs.YtnahlpeckfcciaaDoor
