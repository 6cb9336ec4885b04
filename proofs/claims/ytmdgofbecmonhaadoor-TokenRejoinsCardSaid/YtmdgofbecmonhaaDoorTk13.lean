/- Proved: the statement TokenRejoins returns true. Conditions: as each theorem states. -/
import Derived.Test.YtmdgofbecmonhaaDoorTk11
import Derived.Test.YtmdgofbecmonhaaDoorTk3
namespace Go.Proofs.YtmdgofbecmonhaaDoor
open Go.RowKit

def wdS : Nat → ByteArray
  | 0 => ⟨#[106, 111, 105, 110, 116]⟩
  | 1 => ⟨#[48, 46, 53]⟩
  | 2 => ⟨#[126, 33]⟩
  | _ => ⟨#[119]⟩
theorem wdS_bts (m : Nat) (h : m < 4) : bts (wdS m) = wordL m := by
  rcases (show m = 0 ∨ m = 1 ∨ m = 2 ∨ m = 3 by omega) with rfl | rfl | rfl | rfl <;> rfl
set_option maxRecDepth 100000 in
theorem tab4 (m : Nat) (h : m < 4) : ∀ w, (Instr.index 34 (.agg #[.string ⟨#[106, 111, 105, 110, 116]⟩, .string ⟨#[48, 46, 53]⟩, .string ⟨#[126, 33]⟩, .string ⟨#[119]⟩]) (.int .u8 (m : Int))).run Tryd.prog w = .ok (.string (wdS m)) w := by
  rcases (show m = 0 ∨ m = 1 ∨ m = 2 ∨ m = 3 by omega) with rfl | rfl | rfl | rfl <;> exact fun w => by kernel_rfl
def spS : Nat → ByteArray
  | 0 => ⟨#[32]⟩
  | 1 => ⟨#[9, 32]⟩
  | 2 => ⟨#[10]⟩
  | 3 => ⟨#[35, 120, 32, 121, 10]⟩
  | _ => ⟨#[32, 35, 32, 35, 255, 10, 10]⟩
theorem spS_bts (m : Nat) (h : m < 5) : bts (spS m) = sepL m := by
  rcases (show m = 0 ∨ m = 1 ∨ m = 2 ∨ m = 3 ∨ m = 4 by omega) with rfl | rfl | rfl | rfl | rfl <;> rfl
set_option maxRecDepth 100000 in
theorem tab5 (m : Nat) (h : m < 5) : ∀ w, (Instr.index 35 (.agg #[.string ⟨#[32]⟩, .string ⟨#[9, 32]⟩, .string ⟨#[10]⟩, .string ⟨#[35, 120, 32, 121, 10]⟩, .string ⟨#[32, 35, 32, 35, 255, 10, 10]⟩]) (.int .u8 (m : Int))).run Tryd.prog w = .ok (.string (spS m)) w := by
  rcases (show m = 0 ∨ m = 1 ∨ m = 2 ∨ m = 3 ∨ m = 4 by omega) with rfl | rfl | rfl | rfl | rfl <;> exact fun w => by kernel_rfl
/-- The bytes that came in, as a function. -/
theorem bytes_fn {W : World} {a : Option Addr} {n : Nat} (h : BytesAt W a n) : ∃ z : Nat → Nat, ∀ t, t < n → ∃ lb lo : Nat, a = some ⟨lb, lo, none⟩ ∧ lb < W.heap.size ∧ W.cell? ⟨lb, lo + t, none⟩ = some (.int .u8 (z t)) ∧ z t < 256 := by
  have : ∀ t, ∃ zt : Nat, t < n → ∃ lb lo : Nat, a = some ⟨lb, lo, none⟩ ∧ lb < W.heap.size ∧ W.cell? ⟨lb, lo + t, none⟩ = some (.int .u8 zt) ∧ zt < 256 := by
    intro t
    by_cases ht : t < n
    · obtain ⟨lb, lo, z, h1, h2, h3, h4⟩ := h.2 t ht
      exact ⟨z, fun _ => ⟨lb, lo, h1, h2, h3, h4⟩⟩
    · exact ⟨0, fun h => absurd h ht⟩
  exact Classical.skolem.1 this
def qL (z : Nat → Nat) (k : Nat) : List Nat := (List.range k).map z
theorem qL_len (z : Nat → Nat) (k : Nat) : (qL z k).length = k := by simp [qL]
theorem qL_snoc (z : Nat → Nat) (k : Nat) : qL z (k + 1) = qL z k ++ [z k] := by simp [qL, List.range_succ]
theorem qL_get (z : Nat → Nat) {k j : Nat} (h : j < (qL z k).length) : (qL z k)[j] = z j := by simp [qL]
theorem join_step {z : Nat → Nat} {k : Nat} {b : ByteArray} (hb : bts b = joinL (qL z k)) : bts (b ++ (wdS (z k % 4) ++ spS (z k / 4 % 5))) = joinL (qL z (k + 1)) := by
  rw [qL_snoc, joinL_snoc, bts_append, bts_append, hb, wdS_bts _ (by omega), spS_bts _ (by omega), List.append_assoc]
theorem join_size {z : Nat → Nat} {k : Nat} {b : ByteArray} (hb : bts b = joinL (qL z k)) : b.size ≤ 12 * k := by
  have := joinL_len (qL z k)
  rw [qL_len] at this
  rw [← bts_len, hb]; exact this
/-- The words that are found, as they lie in memory. -/
theorem join_words {z : Nat → Nat} {k : Nat} {s : ByteArray} (hs : bts s = joinL (qL z k)) (hk : k ≤ 60) : ∃ xs : List Tw, (splitS s).words.map (wdT s) = xs ∧ (splitS s).err = 0 ∧ xs.length = k ∧
    (∀ j (h : j < xs.length), xs[j].t = wdS (z j % 4)) ∧ (∀ j (h : j < xs.length) (h0 : 0 < j), xs[j - 1].l ≤ xs[j].l) := by
  have hsp := split_join hs (by rw [qL_len]; exact hk)
  have hlen : (placeL (qL z k) 0 1 0).length = k := by rw [place_len, qL_len]
  refine ⟨_, rfl, by rw [hsp]; rfl, ?_, ?_, ?_⟩
  · rw [hsp]; simp [Res.words, hlen]
  · intro j hj
    rw [hsp] at hj
    simp only [hsp, Res.words, List.length_map] at hj ⊢
    rw [List.getElem_map]
    apply bts_inj
    rw [wdS_bts _ (by omega)]
    show bts (s.extract _ _) = _
    rw [bts_extract, hs]
    have := place_text (joinL (qL z k)) (qL z k) [] 1 0 rfl j (by rw [qL_len]; omega) hj
    rw [qL_get] at this
    exact this
  · intro j hj h0
    rw [hsp] at hj
    simp only [hsp, Res.words, List.length_map] at hj ⊢
    rw [List.getElem_map, List.getElem_map]
    have := List.pairwise_iff_getElem.1 (place_line (qL z k) 0 1 0).2 (j - 1) j (by omega) hj (by omega)
    show ((_ : Nat) : Int) ≤ ((_ : Nat) : Int)
    exact Int.ofNat_le.2 this
set_option linter.unusedSimpArgs false in
set_option linter.unusedVariables false in
set_option maxRecDepth 100000 in
set_option maxHeartbeats 6400000 in
theorem TokenRejoins_any (a : Option Addr) (n cap : Nat) (w : World) (l : BytesAt w a n) :
    Calls Tryd.prog 7 #[ .slice a n cap ] w fun e w' => e = .returned (.bool true) ∧ Below w.heap.size w w' := by
  have hn := l.1
  obtain ⟨z, hz⟩ := bytes_fn l
  have HZ := Lib.hid hz
  clear l hz
  go_enter Tryd.func7, Tryd.ntmps7
  go_wp2_with fail
  go_loopw [3, 4, 5] (fun s ws i wr => ∃ (k : Nat) (b : ByteArray), k ≤ n ∧ k ≤ 60 ∧ i = .int .i64 k ∧ ws = .int .i64 k ∧ s = .string b ∧ bts b = joinL (qL z k) ∧ ∃ q, wr = w.drewN q) (fun _ _ i _ => n - (intOf i).toNat)
  case atStart => exact ⟨0, ⟨#[]⟩, by omega, by omega, rfl, rfl, rfl, rfl, 0, rfl⟩
  case round =>
    obtain ⟨k, b, hk, hk2, rfl, rfl, rfl, hb, q, rfl⟩ := hrel
    have hbz := join_size hb
    have HB := Lib.hid hb
    clear hb
    by_cases hgo : k < n ∧ k < 60
    · obtain ⟨hlt, hl6⟩ := hgo
      obtain ⟨lb, lo, rfl, hl, hc, z1⟩ := HZ.out k hlt
      obtain ⟨m, hm⟩ : ∃ m : Nat, z k % 4 = m := ⟨_, rfl⟩
      obtain ⟨p, hp⟩ : ∃ p : Nat, z k / 4 % 5 = p := ⟨_, rfl⟩
      have hmi : ((z k : Nat) : Int) % 4 = (m : Int) := by omega
      have hpi : ((z k : Nat) : Int) / 4 % 5 = (p : Int) := by omega
      have i4 := tab4 m (by omega)
      have i5 := tab5 p (by omega)
      have hw5 : (wdS m).size ≤ 5 := by rw [← bts_len, wdS_bts m (by omega)]; exact (word_ok m).2.2.1
      have hs7 : (spS p).size ≤ 7 := by rw [← bts_len, spS_bts p (by omega)]; exact (sep_len p).2
      have HS := Lib.hid (join_step HB.out)
      have HM := Lib.hid hm
      have HP := Lib.hid hp
      clear hm hp
      go_wp2_with fail
      go_quiet (fail)
      go_wp2_with fail
      go_roundw
      case rel =>
        have h := HS.out
        rw [HM.out, HP.out] at h
        exact ⟨k + 1, _, by omega, by omega, by go_num, by go_num, rfl, h, _, by first | rfl | assumption⟩
      case measure => simp [intOf]; omega
    · have hend : ¬ (k < n) ∨ ¬ (k < 60) := by omega
      obtain ⟨xs, hxs, herr, hxl, hxt, hxm⟩ := join_words HB.out hk2
      have HX := Lib.hid hxs
      have HER := Lib.hid herr
      have HXL := Lib.hid hxl
      have HXT := Lib.hid hxt
      have HXM := Lib.hid hxm
      clear hxs herr hxl hxt hxm
      have e60 : decide ((k : Int) < 60) = decide (k < 60) := by
        by_cases h : k < 60
        · rw [decide_eq_true h, decide_eq_true (by omega)]
        · rw [decide_eq_false h, decide_eq_false (by omega)]
      rcases (show (k < n ∧ ¬ k < 60) ∨ ¬ k < n by omega) with ⟨h1, h2⟩ | h1
      all_goals
        clear hgo hend e60
        go_wp2_with fail
        refine (tSplit_any b _ (by unfold maxLen; omega)).mono ?_
        rintro e w1 ⟨v, rfl, ho, hb⟩
        have r1 := split_rd ho
        rw [HX.out] at r1
        obtain ⟨E, hE⟩ : ∃ E, (splitS b).ln = E := ⟨_, rfl⟩
        rw [HER.out, hE]
        obtain ⟨A, c, rfl, _, hrd⟩ := r1
        have B1 := Lib.hid (show Below w.heap.size w w1 from bl_next hb (bl_drewN (Below.refl _ _)))
        have HRD := Lib.hid hrd
        have hxk := HXL.out
        clear ho hb hrd hE
        have E1 := Lib.hid (ErrAt.new w1 0 E)
        have c0 := (ErrAt.new w1 0 E).c0
        have n0 : ((xs.length : Int) != (k : Int)) = false := by simp [hxk]
        have hq1 := B1.out.size
        have HXK := Lib.hid hxk
        clear hxk
        go_wp2_with fail
        clear n0 c0
        obtain ⟨U, hU⟩ : ∃ U, w1.alloc (.cells #[.int .i64 0, .int .i64 E] 39) = U := ⟨_, rfl⟩
        have BU := Lib.hid (show Below w.heap.size w U by rw [← hU]; exact bl_alloc B1.out _)
        have AU := Lib.hid (show ∀ g o, g < w1.heap.size → U.cell? ⟨g, o, none⟩ = w1.cell? ⟨g, o, none⟩ by rw [← hU]; exact fun g o hg => World.cell?_alloc_lt w1 _ ⟨g, o, none⟩ hg)
        rw [hU]
        clear hU E1 hq1
        go_loopw [8] (fun i wr => ∃ j : Nat, j ≤ xs.length ∧ i = .int .i64 j ∧ ∃ q, wr = U.drewN q) (fun i _ => xs.length - (intOf i).toNat)
        case atStart => exact ⟨0, by omega, rfl, 0, rfl⟩
        case round =>
          obtain ⟨j, hj, rfl, q, rfl⟩ := hrel
          by_cases hjl : j < xs.length
          · have hjn : j < n := by have := HXK.out; omega
            obtain ⟨lb, lo, rfl, hl, hc, z1⟩ := HZ.out j hjn
            have hc' : U.cell? ⟨lb, lo + j, none⟩ = some (.int .u8 (z j)) := (Below.cell BU.out (p := ⟨lb, lo + j, none⟩) hl).trans hc
            obtain ⟨g, rfl, hg, a0, a1, a2⟩ := HRD.out j hjl
            rw [HXT.out j hjl] at a0
            have ab : ∀ o, U.cell? ⟨g, o, none⟩ = w1.cell? ⟨g, o, none⟩ := fun o => AU.out g o hg
            have d0 := (ab _).trans a0
            have d1 := (ab _).trans a1
            obtain ⟨m, hm⟩ : ∃ m : Nat, z j % 4 = m := ⟨_, rfl⟩
            rw [hm] at d0
            have hmi : ((z j : Nat) : Int) % 4 = (m : Int) := by omega
            have i4 := tab4 m (by omega)
            clear hm hc a0 a1 a2
            rcases Nat.eq_zero_or_pos j with hj0 | hj0
            · subst hj0
              clear ab
              have d0' : U.cell? ⟨g, 0, none⟩ = some (.string (wdS m)) := d0
              have hc0 : U.cell? ⟨lb, lo, none⟩ = some (.int .u8 (z 0)) := hc'
              clear d0 d1 hc'
              go_wp2_with fail
              go_quiet (fail)
              go_wp2_with fail
              go_roundw
              case rel => exact ⟨1, by omega, rfl, _, by first | rfl | assumption⟩
              case measure => simp [intOf]; omega
            · have e1 : ((xs[j - 1]'(by omega)).l) ≤ (xs[j]'hjl).l := HXM.out j hjl hj0
              obtain ⟨g', hgg, hg', p0, p1, p2⟩ := HRD.out (j - 1) (by omega)
              injection hgg with hgg
              injection hgg with hgg _ _
              subst hgg
              have d3 := (ab _).trans p1
              obtain ⟨l1, hl1⟩ : ∃ l1, (xs[j - 1]'(by omega)).l = l1 := ⟨_, rfl⟩
              obtain ⟨l2, hl2⟩ : ∃ l2, (xs[j]'hjl).l = l2 := ⟨_, rfl⟩
              rw [hl1] at e1 d3
              rw [hl2] at e1 d1
              clear hl1 hl2 ab p0 p1 p2
              go_wp2_with fail
              go_quiet (fail)
              go_wp2_with fail
              go_roundw
              case rel => exact ⟨j + 1, by omega, by go_num, _, by first | rfl | assumption⟩
              case measure => simp [intOf]; omega
          · go_wp2_with fail
            refine (awake_any _).mono ?_
            rintro e w2 ⟨rfl, hb⟩
            have B2 := Lib.hid (bl_next hb (bl_drewN BU.out))
            clear hb
            go_wp2_with fail
            go_ret
            exact ⟨rfl, B2.out⟩
end Go.Proofs.YtmdgofbecmonhaaDoor
