/- Proved: plain facts on descriptions: the statements that were found, formatted again; the statement SyntaxRoundTrip returns true. Conditions: as each theorem states. -/
import Derived.Test.YtnahlpeckfcciaaDoorSy14
import Derived.Test.YtnahlpeckfcciaaDoorSy5
import Derived.Test.YtnahlpeckfcciaaDoorSyW
namespace Go.Proofs.YtnahlpeckfcciaaDoor
open Go.RowKit

def sumT (l : List (List Nat × Nat)) : Nat := (l.map fun p => p.1.length + 1).sum
def GoodWd (l : List (List Nat × Nat)) : Prop := ∀ p ∈ l, p.1 ≠ [] ∧ ∀ c ∈ p.1, wb c = true
def curLen : Option (List Nat) → Nat
  | none => 1
  | some t => t.length + 1
def curOk : Option (List Nat) → Prop
  | none => True
  | some t => t ≠ [] ∧ ∀ c ∈ t, wb c = true
theorem flT_good {cur : Option (List Nat)} {line : Nat} {out : List (List Nat × Nat)} (hc : curOk cur) (ho : GoodWd out) : GoodWd (flT cur line out) ∧ sumT (flT cur line out) ≤ sumT out + curLen cur := by
  cases cur with
  | none => exact ⟨ho, by simp [flT, curLen]⟩
  | some t =>
    refine ⟨fun p hp => ?_, by simp [flT, sumT, curLen]⟩
    rcases List.mem_append.1 hp with hp | hp
    · exact ho p hp
    · simp at hp; subst hp; exact hc
theorem rT_good (l : List Nat) : ∀ (line : Nat) (com : Bool) (cur : Option (List Nat)) (out W : List (List Nat × Nat)), rT l line com cur out = some W → curOk cur → GoodWd out → GoodWd W ∧ sumT W ≤ sumT out + curLen cur + l.length := by
  induction l with
  | nil =>
    intro line com cur out W h hc ho
    simp only [rT] at h
    injection h with h
    subst h
    obtain ⟨h1, h2⟩ := flT_good (line := line) hc ho
    exact ⟨h1, by simp; omega⟩
  | cons c l ih =>
    intro line com cur out W h hc ho
    obtain ⟨f1, f2⟩ := flT_good (line := line) hc ho
    rw [rT] at h
    have next : ∀ {line2 : Nat} {com2 : Bool}, rT l line2 com2 none (flT cur line out) = some W → GoodWd W ∧ sumT W ≤ sumT out + curLen cur + (c :: l).length := by
      intro line2 com2 h
      obtain ⟨h1, h2⟩ := ih _ _ _ _ _ h trivial f1
      refine ⟨h1, ?_⟩
      have h3 : sumT W ≤ sumT (flT cur line out) + 1 + l.length := h2
      rw [List.length_cons]
      omega
    by_cases h1 : com = false ∧ wb c = true
    · rw [if_pos h1] at h
      have hc' : curOk (some (cur.getD [] ++ [c])) := by
        refine ⟨by simp, fun x hx => ?_⟩
        rcases List.mem_append.1 hx with hx | hx
        · cases cur with
          | none => simp at hx
          | some t => exact hc.2 x (by simpa using hx)
        · simp at hx; subst hx; exact h1.2
      obtain ⟨h2, h3⟩ := ih _ _ _ _ _ h hc' ho
      refine ⟨h2, ?_⟩
      have e : curLen (some (cur.getD [] ++ [c])) = curLen cur + 1 := by cases cur <;> simp [curLen]
      rw [e] at h3
      simp only [List.length_cons]
      omega
    · rw [if_neg h1] at h
      by_cases h2 : c = 10
      · rw [if_pos h2] at h; exact next h
      · rw [if_neg h2] at h
        by_cases h3 : com = true
        · rw [if_pos h3] at h; exact next h
        · rw [if_neg h3] at h
          by_cases h4 : c = 35
          · rw [if_pos h4] at h; exact next h
          · rw [if_neg h4] at h
            by_cases h5 : c = 32 ∨ c = 9
            · rw [if_pos h5] at h; exact next h
            · rw [if_neg h5] at h; cases h
theorem grp_words (ws : List Tw) (P : ByteArray → Prop) (h : ∀ w ∈ ws, P w.t) : (∀ g ∈ grp ws, P g.word ∧ ∀ a ∈ g.args, P a) ∧ fmtLen (grp ws) = (ws.map fun w => w.t.size + 1).sum := by
  induction ws with
  | nil => exact ⟨fun g hg => (by cases hg), rfl⟩
  | cons x ws ih =>
    obtain ⟨h1, h2⟩ := ih (fun w hw => h w (by simp [hw]))
    have hx := h x (by simp)
    rw [List.map_cons, List.sum_cons, ← h2, grp]
    cases hg : grp ws with
    | nil => exact ⟨fun g hg => by simp at hg; subst hg; exact ⟨hx, by simp⟩, by simp [fmtLen, lineLen, argsLen]⟩
    | cons g gs =>
      rw [hg] at h1
      simp only
      by_cases hl : g.line = x.l
      · rw [if_pos hl]
        refine ⟨fun y hy => ?_, ?_⟩
        · rcases List.mem_cons.1 hy with rfl | hy
          · refine ⟨hx, fun a ha => ?_⟩
            rcases List.mem_cons.1 ha with rfl | ha
            · exact (h1 g (by simp)).1
            · exact (h1 g (by simp)).2 a ha
          · exact h1 y (by simp [hy])
        · simp only [fmtLen, List.map_cons, List.sum_cons, lineLen, argsLen]; omega
      · rw [if_neg hl]
        refine ⟨fun y hy => ?_, ?_⟩
        · rcases List.mem_cons.1 hy with rfl | hy
          · exact ⟨hx, by simp⟩
          · exact h1 y hy
        · simp only [fmtLen, List.map_cons, List.sum_cons, lineLen, argsLen, List.map_nil, List.sum_nil]; omega
/-- Statements that were found hold words, and their text is hardly longer. -/
theorem parse_words {s : ByteArray} (h : (parseS s).err = 0) : (∀ g ∈ (parseS s).sts, GoodSt g ∧ WordT g.word ∧ ∀ a ∈ g.args, WordT a) ∧ fmtLen (parseS s).sts ≤ s.size + 1 ∧ (parseS s).sts.length ≤ 256 := by
  cases hs : splitS s with
  | bad k => rw [parse_bad hs] at h; exact absurd h (by simp)
  | ok W =>
    cases hc : chk 0 (grp (W.map (wdT s))) with
    | some p =>
      obtain ⟨e, k⟩ := p
      rw [parse_err hs hc] at h
      exact absurd h (by have := chk_codes hc; dsimp only; omega)
    | none =>
      rw [parse_ok hs hc]
      obtain ⟨c1, c2⟩ := chk_none.1 hc
      have hrun : run (bts s) 0 1 0 false none [] = .ok W := by
        unfold splitS at hs
        split at hs
        · cases hs
        · exact hs
      have ht := run_txt (bts s) (bts s) 0 1 0 false none [] W (by simp) (Nat.zero_le _) (fun a ha => by cases ha) hrun
      simp only [curOf, Option.map_none, List.map_nil] at ht
      obtain ⟨g1, g2⟩ := rT_good _ _ _ _ _ _ ht trivial (fun p hp => by cases hp)
      have hw : ∀ w ∈ W.map (wdT s), WordT w.t := by
        intro w hw
        obtain ⟨x, hx, rfl⟩ := List.mem_map.1 hw
        obtain ⟨n1, n2⟩ := g1 (txtW (bts s) x) (List.mem_map.2 ⟨x, hx, rfl⟩)
        simp only [txtW] at n1 n2
        rw [← bts_extract] at n1 n2
        refine ⟨?_, n2⟩
        show 1 ≤ (s.extract x.a x.b).size
        rw [← bts_len]
        exact List.length_pos_iff.2 n1
      obtain ⟨h1, h2⟩ := grp_words (W.map (wdT s)) WordT hw
      refine ⟨fun g hg => ⟨c2 g hg, h1 g hg⟩, ?_, ?_⟩
      · show fmtLen (grp (W.map (wdT s))) ≤ s.size + 1
        rw [h2]
        have e : ((W.map (wdT s)).map fun w => w.t.size + 1).sum = sumT (W.map (txtW (bts s))) := by
          unfold sumT
          rw [List.map_map, List.map_map]
          congr 1
          apply List.map_congr_left
          intro x _
          simp only [Function.comp, wdT, txtW]
          rw [← bts_extract, bts_len]
        rw [e]
        have := bts_len s
        simp only [sumT, List.map_nil, List.sum_nil, curLen] at g2 ⊢
        omega
      · show (grp (W.map (wdT s))).length ≤ 256
        rcases c1 with c1 | c1
        · omega
        · rw [c1]; exact Nat.zero_le _
end Go.Proofs.YtnahlpeckfcciaaDoor
namespace Go.Proofs.YtnahlpeckfcciaaDoor
open Go.RowKit

theorem ListAt.low {u v : World} {a : Option Addr} {n : Nat} (h : ListAt u a n) (k : Below u.heap.size u v) : ListAt v a n :=
  ⟨h.1, fun t ht => by
    obtain ⟨lb, lo, z, e, hl, hz, z1, z2⟩ := h.2 t ht
    exact ⟨lb, lo, z, e, Nat.lt_of_lt_of_le hl k.size, by rw [k.cell (p := ⟨lb, lo + t, none⟩) hl]; exact hz, z1, z2⟩⟩
/-- Statements that can be formatted and read again. -/
def FmtL (l : List St) : Prop := l.length ≤ 256 ∧ fmtLen l ≤ 16384 ∧ ∀ g ∈ l, GoodSt g ∧ WordT g.word ∧ ∀ a ∈ g.args, WordT a
theorem gaps_alike (l : List St) (cs : List Nat) : AlikeB false l (withGaps 1 l cs) := by
  obtain ⟨h1, h2⟩ := withGaps_alike (l := l) 1 cs
  exact ⟨h1.symm, fun k h h' => ⟨(h2 k h' h).1.symm, (h2 k h' h).2.symm, fun e => by cases e⟩⟩
set_option linter.unusedSimpArgs false in
set_option linter.unusedVariables false in
set_option maxRecDepth 100000 in
set_option maxHeartbeats 6400000 in
theorem SyntaxRoundTrip_any (a : Option Addr) (n cap : Nat) (a2 : Option Addr) (n2 cap2 : Nat) (w : World) (l : BytesAt w a n) (l2 : ListAt w a2 n2) :
    Calls Tryd.prog 6 #[ .slice a n cap, .slice a2 n2 cap2 ] w fun e w' => e = .returned (.bool true) ∧ Below w.heap.size w w' := by
  obtain ⟨zs, hzl, hzs⟩ := bytes_is l
  subst hzl
  have HBY := Lib.hid hzs
  have HL2 := Lib.hid l2
  have htz := typT_size zs
  obtain ⟨tz, hz⟩ : ∃ b, typT zs = b := ⟨_, rfl⟩
  have KT := fun (w : World) (h : BytesIs w a zs) => typical7_any a cap zs w h
  rw [hz] at KT htz
  have HT := Lib.hid KT
  have hpw := fun h => parse_words (s := tz) h
  have P1 := fun w => sParse_any tz w (by unfold maxLen; omega)
  unfold PaP at P1
  obtain ⟨E, hE⟩ : ∃ E, (parseS tz).err = E := ⟨_, rfl⟩
  obtain ⟨K, hK⟩ : ∃ K, (parseS tz).ln = K := ⟨_, rfl⟩
  obtain ⟨xs, hxs⟩ : ∃ xs, (parseS tz).sts = xs := ⟨_, rfl⟩
  rw [hE, hK, hxs] at P1
  rw [hE, hxs] at hpw
  have HP1 := Lib.hid P1
  have HPW := Lib.hid (show E = 0 → FmtL xs from fun h => by obtain ⟨h1, h2, h3⟩ := hpw h; exact ⟨h3, by omega, h1⟩)
  clear l l2 hzs KT hz P1 hE hK hxs hpw
  go_enter Tryd.func6, Tryd.ntmps6
  go_wp2_with fail
  refine (HT.out _ HBY.out).mono ?_
  rintro e w1 ⟨rfl, rfl⟩
  go_wp2_with fail
  refine (HP1.out _).mono ?_
  rintro e w1 ⟨v, rfl, r1, hb⟩
  have R1 := Lib.hid (r1.below (bl_alloc (Below.refl _ _) (.cells #[.int .i64 E, .int .i64 K] 49)) (Nat.le_refl _))
  have B1 := Lib.hid (bl_alloc hb (.cells #[.int .i64 E, .int .i64 K] 49))
  clear hb r1
  go_upto_if 18 with fail
  go_cut [5] from 10 to 21 (fun v5 wx => ∃ l, RdS wx v5 l ∧ FmtL l ∧ Below w.heap.size w wx)
  case first =>
    by_cases hE0 : E = 0
    · have hfm := HPW.out hE0
      have HFM := Lib.hid hfm
      clear hfm
      subst hE0
      go_wp2_with fail
      go_meet
      exact ⟨xs, R1.out, HFM.out, B1.out⟩
    · go_wp2_with fail
      refine (scene_any a2 n2 cap2 _ (HL2.out.low B1.out)).mono ?_
      intro e w2 hsc
      obtain ⟨vj, vm, vs, vk, js, ms, ss, ks, rfl, hb, hsm⟩ := scene_made hsc
      have SM := Lib.hid hsm
      have B2 := Lib.hid (bl_next hb B1.out)
      clear hb hsm hsc
      go_wp2_with fail
      refine (rWriteScene_any js ms ss ks vj vm vs vk _ SM.out).mono ?_
      rintro e w3 ⟨v3, l3, rfl, r3, hs3, hb⟩
      have R3 := Lib.hid r3
      have S3 := Lib.hid hs3
      have B3 := Lib.hid (bl_next hb B2.out)
      clear hb r3 hs3
      go_wp2_with fail
      go_meet
      exact ⟨l3, R3.out, ⟨by have := S3.out.1; omega, by have := S3.out.2.1; omega, S3.out.2.2⟩, B3.out⟩
  case rest =>
    obtain ⟨l, hr, hf, hb⟩ := hcut
    have R2 := Lib.hid hr
    have F2 := Lib.hid hf
    have B2 := Lib.hid hb
    have hfs : (fmtS l).size ≤ maxLen := by
      have := fmtK_size l l.length
      rw [List.take_length] at this
      have h2 := hf.2.1
      unfold fmtS maxLen
      omega
    have hpf := parse_fmt hf.2.2 hf.2.1 hf.1
    have hln := fun k h => withGaps_lines (l := l) 1 k h
    have hal := gaps_alike l []
    have hgl : (withGaps 1 l []).length ≤ 256 := by rw [(withGaps_alike (l := l) 1 []).1]; exact hf.1
    obtain ⟨T, hT⟩ : ∃ T, fmtS l = T := ⟨_, rfl⟩
    obtain ⟨L, hL⟩ : ∃ L, withGaps 1 l [] = L := ⟨_, rfl⟩
    have P2 := fun w => sParse_any T w (by rw [← hT]; exact hfs)
    have P3 := fun (u : Value) (w : World) (h : RdS w u l) => sFormat_any u l w h (by have := hf.2.1; omega)
    unfold PaP at P2
    rw [hT] at hpf P3
    rw [hpf] at P2
    rw [hL] at P2 hln hal hgl
    have HP2 := Lib.hid P2
    have HP3 := Lib.hid P3
    have HLN := Lib.hid hln
    have HAL := Lib.hid hal
    clear hr hf hb hfs hpf hln hal hT hL P2 P3 R1 B1
    simp only at HP2
    go_wp2_with fail
    refine (HP3.out _ _ R2.out).mono ?_
    rintro e w2 ⟨rfl, hb⟩
    have R3 := Lib.hid (R2.out.below hb (Nat.le_refl _))
    have B3 := Lib.hid (bl_next hb B2.out)
    clear hb
    go_wp2_with fail
    refine (HP2.out _).mono ?_
    rintro e w3 ⟨v3, rfl, r3, hb⟩
    have R4 := Lib.hid ((R3.out.below hb (Nat.le_refl _)).below (bl_alloc (Below.refl _ _) (.cells #[.int .i64 0, .int .i64 0] 49)) (Nat.le_refl _))
    have R5 := Lib.hid (r3.below (bl_alloc (Below.refl _ _) (.cells #[.int .i64 0, .int .i64 0] 49)) (Nat.le_refl _))
    have B4 := Lib.hid (bl_alloc (bl_next hb B3.out) (.cells #[.int .i64 0, .int .i64 0] 49))
    clear hb r3 R2 R3
    go_wp2_with fail
    refine (sameS_any _ _ _ _ false _ R4.out R5.out HAL.out).mono ?_
    rintro e w4 ⟨rfl, hb⟩
    have R6 := R5.out.below hb (Nat.le_refl _)
    have B5 := Lib.hid (bl_next hb B4.out)
    clear hb
    obtain ⟨A, c, rfl, ⟨hl1, hl2⟩, hk⟩ := R6
    have HK := Lib.hid hk
    clear hk
    go_wp2_with fail
    go_loop [9] (fun i => ∃ k : Nat, k ≤ L.length ∧ i = .int .i64 k) (fun i => L.length - (intOf i).toNat)
    case atStart => exact ⟨0, by omega, rfl⟩
    case round =>
      obtain ⟨k, hk, rfl⟩ := hrel
      by_cases hlt : k < L.length
      · obtain ⟨g, o, va, rfl, hg, a0, a1, a2, a3⟩ := HK.out k hlt
        rw [HLN.out k hlt] at a0
        clear a1 a2 a3
        go_wp2_with fail
        go_round
        case rel => exact ⟨k + 1, by omega, by go_num⟩
        case measure => simp [intOf]; omega
      · go_wp2_with fail
        refine (awake7_any _).mono ?_
        rintro e w5 ⟨rfl, hb⟩
        have B6 := Lib.hid (bl_next hb B5.out)
        clear hb
        go_wp2_with fail
        go_ret
        exact ⟨rfl, B6.out⟩
end Go.Proofs.YtnahlpeckfcciaaDoor
