/- Proved: the reference's FormatStatements and Uses return what fmtS and usesS here compute, and turn nothing that was there. Conditions: as each theorem states. -/
import Derived.Test.YtnahlpeckfcciaaDoorSy4
namespace Go.Proofs.YtnahlpeckfcciaaDoor
open Go.RowKit

def argB (b a : ByteArray) : ByteArray := b ++ (⟨#[32]⟩ ++ a)
def argK (xs : List ByteArray) (b : ByteArray) (j : Nat) : ByteArray := (xs.take j).foldl argB b
def lineB (b : ByteArray) (g : St) : ByteArray := argK g.args (b ++ g.word) g.args.length ++ ⟨#[10]⟩
def fmtK (l : List St) (k : Nat) : ByteArray := (l.take k).foldl lineB ⟨#[]⟩
/-- The text of statements. -/
def fmtS (l : List St) : ByteArray := fmtK l l.length
def argsLen (xs : List ByteArray) : Nat := (xs.map fun a => 1 + a.size).sum
def lineLen (g : St) : Nat := g.word.size + argsLen g.args + 1
def fmtLen (l : List St) : Nat := (l.map lineLen).sum
theorem argK_succ {xs : List ByteArray} {b : ByteArray} {j : Nat} (h : j < xs.length) : argK xs b (j + 1) = argK xs b j ++ (⟨#[32]⟩ ++ xs[j]) := by
  unfold argK
  rw [List.take_succ_eq_append_getElem h, List.foldl_append]
  rfl
theorem fmtK_succ {l : List St} {k : Nat} (h : k < l.length) : fmtK l (k + 1) = argK l[k].args (fmtK l k ++ l[k].word) l[k].args.length ++ ⟨#[10]⟩ := by
  unfold fmtK
  rw [List.take_succ_eq_append_getElem h, List.foldl_append]
  rfl
theorem argK_size (xs : List ByteArray) (b : ByteArray) (j : Nat) : (argK xs b j).size = b.size + argsLen (xs.take j) := by
  unfold argK
  generalize xs.take j = l
  induction l generalizing b with
  | nil => simp [argsLen]
  | cons a l ih =>
    rw [List.foldl_cons, ih]
    simp only [argB, ByteArray.size_append, argsLen, List.map_cons, List.sum_cons]
    rw [show (⟨#[32]⟩ : ByteArray).size = 1 from rfl]
    omega
theorem argsLen_take (xs : List ByteArray) (j : Nat) : argsLen (xs.take j) ≤ argsLen xs := by
  induction xs generalizing j with
  | nil => simp
  | cons x xs ih =>
    cases j with
    | zero => simp [argsLen]
    | succ j => have := ih j; simp only [argsLen, List.take_succ_cons, List.map_cons, List.sum_cons] at this ⊢; omega
theorem argsLen_step {xs : List ByteArray} {j : Nat} (h : j < xs.length) : argsLen (xs.take j) + 1 + xs[j].size ≤ argsLen xs := by
  have := argsLen_take xs (j + 1)
  rw [List.take_succ_eq_append_getElem h] at this
  simp only [argsLen, List.map_append, List.sum_append, List.map_cons, List.map_nil, List.sum_cons, List.sum_nil] at this ⊢
  omega
theorem fmtK_size (l : List St) (k : Nat) : (fmtK l k).size = fmtLen (l.take k) := by
  unfold fmtK
  have key : ∀ (m : List St) (b : ByteArray), (m.foldl lineB b).size = b.size + fmtLen m := by
    intro m
    induction m with
    | nil => intro b; simp [fmtLen]
    | cons g m ih =>
      intro b
      rw [List.foldl_cons, ih]
      simp only [lineB, ByteArray.size_append, argK_size, List.take_length, fmtLen, List.map_cons, List.sum_cons, lineLen]
      rw [show (⟨#[10]⟩ : ByteArray).size = 1 from rfl]
      omega
  rw [key]
  exact Nat.zero_add _
theorem fmtLen_take (l : List St) (k : Nat) : fmtLen (l.take k) ≤ fmtLen l := by
  induction l generalizing k with
  | nil => simp
  | cons x l ih =>
    cases k with
    | zero => simp [fmtLen]
    | succ k => have := ih k; simp only [fmtLen, List.take_succ_cons, List.map_cons, List.sum_cons] at this ⊢; omega
theorem fmtLen_step {l : List St} {k : Nat} (h : k < l.length) : (fmtK l k).size + lineLen l[k] ≤ fmtLen l := by
  have := fmtLen_take l (k + 1)
  rw [List.take_succ_eq_append_getElem h] at this
  rw [fmtK_size]
  simp only [fmtLen, List.map_append, List.sum_append, List.map_cons, List.map_nil, List.sum_cons, List.sum_nil] at this ⊢
  omega
/-- The places of the statements that begin with a word. -/
def usesS (l : List St) (word : ByteArray) (k : Nat) : List Nat := (List.range k).filter fun i => decide (∃ h : i < l.length, l[i].word = word)
theorem usesS_succ {l : List St} {word : ByteArray} {k : Nat} (h : k < l.length) : usesS l word (k + 1) = usesS l word k ++ if l[k].word = word then [k] else [] := by
  unfold usesS
  rw [List.range_succ, List.filter_append]
  congr 1
  by_cases hw : l[k].word = word <;> simp [h, hw]
theorem usesS_len (l : List St) (word : ByteArray) (k : Nat) : (usesS l word k).length ≤ k := by
  unfold usesS
  exact Nat.le_trans (List.length_filter_le _ _) (by rw [List.length_range]; exact Nat.le_refl _)
set_option linter.unusedSimpArgs false in
set_option linter.unusedVariables false in
set_option maxRecDepth 100000 in
set_option maxHeartbeats 6400000 in
theorem rFmtS_any (u : Value) (l : List St) (w : World) (hu : RdS w u l) (hs : fmtLen l ≤ 4611686018427387904) :
    Calls Tryd.prog 18 #[ u ] w fun e w' => e = .returned (.string (fmtS l)) ∧ w = w' := by
  have HU := Lib.hid hu
  obtain ⟨A, c, rfl, hl, hk⟩ := hu
  have HK := Lib.hid hk
  clear hk
  obtain ⟨F, hF⟩ : ∃ F, fmtS l = F := ⟨_, rfl⟩
  rw [hF]
  have HF := Lib.hid hF
  clear hF
  go_enter Tryd.func18, Tryd.ntmps18
  go_wp2_with fail
  go_loop [3, 4] (fun s i => ∃ k : Nat, k ≤ l.length ∧ i = .int .i64 k ∧ s = .string (fmtK l k)) (fun _ i => l.length - (intOf i).toNat)
  case atStart => exact ⟨0, Nat.zero_le _, rfl, rfl⟩
  case round =>
    obtain ⟨k, hkl, rfl, rfl⟩ := hrel
    by_cases hlt : k < l.length
    · obtain ⟨g, o, va, rfl, hg, a0, a1, a2, a3⟩ := HK.out k hlt
      obtain ⟨B, c3, rfl, hl3, ha⟩ := a3
      have HA := Lib.hid ha
      have hz := fmtLen_step hlt
      have HSU := Lib.hid (fmtK_succ hlt)
      obtain ⟨b, hb⟩ : ∃ b, fmtK l k = b := ⟨_, rfl⟩
      rw [hb] at hz
      unfold lineLen at hz
      have HB := Lib.hid hb
      rw [hb]
      obtain ⟨word, hword⟩ : ∃ x, l[k].word = x := ⟨_, rfl⟩
      obtain ⟨xs, hxs⟩ : ∃ x, l[k].args = x := ⟨_, rfl⟩
      obtain ⟨L, hL⟩ : ∃ x, argsLen xs = x := ⟨_, rfl⟩
      rw [hword] at a1 hz
      rw [hxs] at hl3 HA hz a2
      rw [hL] at hz
      have HX := Lib.hid (show fmtK l (k + 1) = argK xs (b ++ word) xs.length ++ ⟨#[10]⟩ by rw [HSU.out, hxs, hb, hword])
      have HL := Lib.hid hL
      have hbw : b.size + word.size ≤ 4611686018427387904 := by omega
      have hbs := ByteArray.size_append (a := b) (b := word)
      obtain ⟨bw, hbwe⟩ : ∃ x, b ++ word = x := ⟨_, rfl⟩
      have HBW := Lib.hid hbwe
      have hbz : bw.size + L + 1 ≤ 4611686018427387904 := by rw [← hbwe, hbs]; omega
      clear ha HSU hb hword hxs hL hbs hbwe
      go_wp2_with fail
      rw [HBW.out]
      go_loop [3, 5] (fun s i => ∃ j : Nat, j ≤ xs.length ∧ i = .int .i64 j ∧ s = .string (argK xs bw j)) (fun _ i => xs.length - (intOf i).toNat)
      case atStart => exact ⟨0, Nat.zero_le _, rfl, rfl⟩
      case round =>
        obtain ⟨j, hj, rfl, rfl⟩ := hrel
        obtain ⟨d, hd⟩ : ∃ d, argK xs bw j = d := ⟨_, rfl⟩
        have hdz := argK_size xs bw j
        rw [hd] at hdz ⊢
        by_cases hjl : j < xs.length
        · obtain ⟨g', o', rfl, hg', b0⟩ := HA.out j hjl
          have hst := argsLen_step hjl
          rw [HL.out] at hst
          have HS := Lib.hid (argK_succ (b := bw) hjl)
          rw [hd] at HS
          have HJ := Lib.hid hd
          obtain ⟨y, hy⟩ : ∃ y, xs[j] = y := ⟨_, rfl⟩
          rw [hy] at hst HS b0
          have hdy : d.size + y.size + 1 ≤ 4611686018427387904 := by omega
          clear hd hdz hst hy
          go_wp2_with fail
          go_round
          case rel => exact ⟨j + 1, by omega, by go_num, by rw [HS.out]⟩
          case measure => simp [intOf]; omega
        · have hje : j = xs.length := by omega
          subst hje
          rw [List.take_length, HL.out] at hdz
          have HD := Lib.hid (show fmtK l (k + 1) = d ++ ⟨#[10]⟩ by rw [HX.out, HBW.out, hd])
          have hdy : d.size + 1 ≤ 4611686018427387904 := by omega
          clear hdz hd
          go_wp2_with fail
          go_round
          case rel => exact ⟨k + 1, by omega, by go_num, by rw [HD.out]⟩
          case measure => simp [intOf]; omega
    · have hke : k = l.length := by omega
      subst hke
      have hFb : fmtK l l.length = F := HF.out
      rw [hFb]
      go_wp2_with fail
      go_ret
      exact ⟨rfl, rfl⟩
/-- A slice of numbers that reads as a list. -/
def RdI (W : World) (v : Value) (xs : List Nat) : Prop := ∃ (A : Option Addr) (c : Nat), v = .slice A xs.length c ∧ xs.length ≤ 8796093022208 ∧
  ∀ (k : Nat) (h : k < xs.length), ∃ g o, A = some ⟨g, o, none⟩ ∧ g < W.heap.size ∧ W.cell? ⟨g, o + k, none⟩ = some (.int .i64 (xs[k] : Nat))
theorem RdI.below {W V : World} {v : Value} {xs : List Nat} {B : Nat} (h : RdI W v xs) (hb : Below B W V) (hB : W.heap.size ≤ B) : RdI V v xs := by
  obtain ⟨A, c, hv, hl, hk⟩ := h
  refine ⟨A, c, hv, hl, fun k hkl => ?_⟩
  obtain ⟨g, o, hA, hg, h0⟩ := hk k hkl
  have hs := hb.size
  exact ⟨g, o, hA, by omega, (hb.cell (p := ⟨g, o + k, none⟩) (by show g < B; omega)).trans h0⟩
def icells (xs : List Nat) : List Value := xs.map fun x : Nat => Value.int .i64 (x : Int)
theorem own_rdI {W : World} {B : Nat} {v : Value} {xs : List Nat} (h : W.ownsRow B 3 1 v xs.length (icells xs)) (hl : xs.length ≤ 8796093022208) : RdI W v xs := by
  rcases h.2 with ⟨hv, hn⟩ | ⟨g, cap, cur, hv, hbg, hcur, h1, h2, h3, h4⟩
  · exact ⟨none, 0, by rw [hv, hn], hl, fun k hk => by omega⟩
  · refine ⟨some ⟨g, 0, none⟩, cap, hv, hl, fun k hk => ⟨g, 0, rfl, lt_of_block hcur, ?_⟩⟩
    subst hv
    rw [Nat.zero_add, h.cellAt k (by omega)]
    simp [icells, hk]
theorem info_int7 : (Tryd.prog.info? 3).map (fun i => (i.zero, i.size, i.bytes)) = some (some (.int .i64 0), 1, 8) := by kernel_rfl
theorem under_ints7 : Tryd.prog.underlying 32 = some (.slice 3) := by kernel_rfl
theorem news_int (W : World) (a : Value) (T : TypeId) : ∀ k u, [a][k]? = some u → (W.alloc (.cells #[a] T)).cell? ((⟨W.heap.size, 0, none⟩ : Addr).add k) = some u := by
  intro k u hu
  match k, hu with
  | 0, hu => simp at hu; subst hu; simp [Addr.add]
  | k + 1, hu => simp at hu
theorem same_word {a b : ByteArray} (h : a = b) : (a.toList == b.toList) = true := by rw [h]; simp
theorem other_word {a b : ByteArray} (h : ¬ a = b) : (a.toList == b.toList) = false := by rw [bts_eq]; exact decide_eq_false fun e => h (bts_inj e)
set_option linter.unusedSimpArgs false in
set_option linter.unusedVariables false in
set_option maxRecDepth 100000 in
set_option maxHeartbeats 6400000 in
theorem rUses_any (u : Value) (l : List St) (word : ByteArray) (w : World) (hu : RdS w u l) :
    Calls Tryd.prog 21 #[ u, .string word ] w fun e w' => ∃ v, e = .returned v ∧ RdI w' v (usesS l word l.length) ∧ Below w.heap.size w w' := by
  have HU := Lib.hid hu
  obtain ⟨A, c, rfl, hl, hk⟩ := hu
  clear hk
  obtain ⟨i0, hi, hz0, hz1, hz2⟩ := info_parts info_int7
  have HI := Lib.hid hi
  have HZ0 := Lib.hid hz0
  have HZ1 := Lib.hid hz1
  have HZ2 := Lib.hid hz2
  clear hi hz0 hz1 hz2
  go_enter Tryd.func21, Tryd.ntmps21
  go_wp2_with fail
  go_loopw [5, 6] (fun v i wr => ∃ k : Nat, k ≤ l.length ∧ i = .int .i64 k ∧ wr.ownsRow w.heap.size 3 1 v (usesS l word k).length (icells (usesS l word k)) ∧ Below w.heap.size w wr) (fun _ i _ => l.length - (intOf i).toNat)
  case atStart => exact ⟨0, Nat.zero_le _, rfl, World.ownsRow_nil _ _ _ _, Below.refl _ _⟩
  case round =>
    obtain ⟨k, hkl, rfl, hown, hb⟩ := hrel
    obtain ⟨q5, k5, c5, rfl⟩ := own_slc hown
    have HO := Lib.hid hown
    have HB := Lib.hid hb
    clear hown
    by_cases hlt : k < l.length
    · obtain ⟨_, _, ea, _, hk⟩ := HU.out.below hb (Nat.le_refl _)
      injection ea with ea _ ec
      subst ea ec
      obtain ⟨g, o, va, rfl, hg, a0, a1, a2, a3⟩ := hk k hlt
      have HS := Lib.hid (usesS_succ (word := word) hlt)
      have hul := usesS_len l word k
      have hl2 := hl.2
      obtain ⟨x, hx⟩ : ∃ x, l[k].word = x := ⟨_, rfl⟩
      rw [hx] at a1 HS
      clear hx hk hb a3 a0 a2
      by_cases hw : x = word
      · have hsw := same_word hw
        rw [if_pos hw] at HS
        have HOA := Lib.hid (HO.out.alloc (.cells #[.int .i64 (k : Int)] 3))
        have hsz := HB.out.size
        clear hw
        go_wp2_with (first | (at_builtin; refine wpList_append_own _ rfl (.tmp 20) (.tmp 22) 32 rfl w.heap.size 3 i0 (.int .i64 0) 1 8 under_ints7 HI.out HZ0.out HZ1.out HZ2.out rfl (by decide) _ (usesS l word k).length (icells (usesS l word k)) rfl HOA.out ⟨wr.heap.size, 0, none⟩ 1 1 [.int .i64 (k : Int)] rfl rfl (news_int wr _ _) (fun u hu => by simp at hu; subst hu; rfl) (by unfold maxLen; omega) (by omega) (by simp; omega) ?_))
        intro v' w1 hown' hgrow _
        have hPU : w1.ownsRow w.heap.size 3 1 v' (usesS l word (k + 1)).length (icells (usesS l word (k + 1))) := by
          rw [HS.out, List.length_append]
          unfold icells
          rw [List.map_append]
          exact hown'
        have hBN : Below w.heap.size w w1 := (HB.out.alloc HB.out.size _).grown hgrow (by simp; omega) (fun j hj => by have := (HO.out.lt j hj).1; omega)
        have HPU := Lib.hid hPU
        have HBN := Lib.hid hBN
        clear hPU hBN hown' hgrow HS
        go_wp2_with fail
        go_roundw
        case rel => exact ⟨k + 1, by omega, by go_num, HPU.out, HBN.out⟩
        case measure => simp [intOf]; omega
      · have hsw := other_word hw
        rw [if_neg hw, List.append_nil] at HS
        clear hw
        go_wp2_with fail
        go_roundw
        case rel => exact ⟨k + 1, by omega, by go_num, by rw [HS.out]; exact HO.out, HB.out⟩
        case measure => simp [intOf]; omega
    · have hke : k = l.length := by omega
      subst hke
      have hr := own_rdI HO.out (by have := usesS_len l word l.length; omega)
      have HR := Lib.hid hr
      clear hr
      go_wp2_with fail
      go_ret
      exact ⟨_, rfl, HR.out, HB.out⟩
set_option linter.unusedSimpArgs false in
set_option linter.unusedVariables false in
set_option maxRecDepth 100000 in
set_option maxHeartbeats 3200000 in
theorem sameI_any (u v : Value) (xs : List Nat) (w : World) (hu : RdI w u xs) (hv : RdI w v xs) :
    Calls Tryd.prog 19 #[ u, v ] w fun e w' => e = .returned (.bool true) ∧ Below w.heap.size w w' := by
  obtain ⟨A, c, rfl, hl, hu⟩ := hu
  obtain ⟨A', c', rfl, _, hv⟩ := hv
  have HU := Lib.hid hu
  have HV := Lib.hid hv
  clear hu hv
  go_enter Tryd.func19, Tryd.ntmps19
  go_wp2_with fail
  go_loopw [5] (fun i wr => ∃ k : Nat, k ≤ xs.length ∧ i = .int .i64 k ∧ ∃ q, wr = w.drewN q) (fun i _ => xs.length - (intOf i).toNat)
  case atStart => exact ⟨0, Nat.zero_le _, rfl, 0, rfl⟩
  case round =>
    obtain ⟨k, hk, rfl, q, rfl⟩ := hrel
    by_cases hlt : k < xs.length
    · obtain ⟨g, o, rfl, hg, a0⟩ := HU.out k hlt
      obtain ⟨g', o', rfl, hg', b0⟩ := HV.out k hlt
      go_wp2_with fail
      go_quiet (fail)
      go_wp2_with fail
      go_roundw
      case rel => exact ⟨k + 1, by omega, by go_num, _, by first | rfl | assumption⟩
      case measure => simp [intOf]; omega
    · go_wp2_with fail
      go_ret
      exact ⟨rfl, bl_drewN (Below.refl _ _)⟩
end Go.Proofs.YtnahlpeckfcciaaDoor
