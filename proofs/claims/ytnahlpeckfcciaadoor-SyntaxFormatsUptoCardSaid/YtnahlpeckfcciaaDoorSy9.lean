/- Proved: reading rows of structs; the reference's Near, isLink, linkName and written return what is stated here. Conditions: as each theorem states. -/
import Derived.Test.YtnahlpeckfcciaaDoorSy8
import Derived.Test.YtnahlpeckfcciaaDoorMk4
namespace Go.Proofs.YtnahlpeckfcciaaDoor
open Go.RowKit

/-- A slice of structs of this size that reads as these cells. -/
def RdC (W : World) (v : Value) (n size : Nat) (xs : List Value) : Prop := ∃ (A : Option Addr) (c : Nat), v = .slice A n c ∧ n ≤ c ∧
  ∀ j, j < n * size → ∃ g, A = some ⟨g, 0, none⟩ ∧ g < W.heap.size ∧ W.cell? ⟨g, j, none⟩ = xs[j]?
theorem RdC.below {W V : World} {v : Value} {n size : Nat} {xs : List Value} {B : Nat} (h : RdC W v n size xs) (hb : Below B W V) (hB : W.heap.size ≤ B) : RdC V v n size xs := by
  obtain ⟨A, c, hv, hc, hk⟩ := h
  refine ⟨A, c, hv, hc, fun j hj => ?_⟩
  obtain ⟨g, hA, hg, h0⟩ := hk j hj
  have hs := hb.size
  exact ⟨g, hA, by omega, (hb.cell (p := ⟨g, j, none⟩) (by show g < B; omega)).trans h0⟩
theorem rdC_own {W : World} {B : Nat} {e : TypeId} {size n : Nat} {v : Value} {xs : List Value} (h : W.ownsRow B e size v n xs) : RdC W v n size xs := by
  rcases h.2 with ⟨hv, hn⟩ | ⟨g, cap, cur, hv, hbg, hcur, h1, h2, h3, h4⟩
  · subst hn
    exact ⟨none, 0, hv, Nat.le_refl _, fun j hj => by omega⟩
  · refine ⟨some ⟨g, 0, none⟩, cap, hv, h1, fun j hj => ⟨g, rfl, lt_of_block hcur, ?_⟩⟩
    subst hv
    rw [h.cellAt j hj]
theorem flat_at {α : Type} (f : α → List Value) (s : Nat) (hf : ∀ x, (f x).length = s) (l : List α) : ∀ (k i : Nat) (hk : k < l.length), i < s → (l.flatMap f)[k * s + i]? = (f l[k])[i]? := by
  induction l with
  | nil => intro k i hk; exact absurd hk (by simp)
  | cons x l ih =>
    intro k i hk hi
    rw [List.flatMap_cons]
    match k with
    | 0 => rw [Nat.zero_mul, Nat.zero_add, List.getElem?_append_left (by rw [hf]; exact hi)]; rfl
    | k + 1 =>
      rw [List.getElem?_append_right (by rw [hf]; have : (k + 1) * s = k * s + s := Nat.succ_mul k s; omega), hf]
      have : (k + 1) * s + i - s = k * s + i := by have : (k + 1) * s = k * s + s := Nat.succ_mul k s; omega
      rw [this]
      exact ih k i (by simpa using hk) hi
/-- Cell i of element k. -/
theorem RdC.at {α : Type} {W : World} {v : Value} {f : α → List Value} {s : Nat} {l : List α} (h : RdC W v l.length s (l.flatMap f)) (hf : ∀ x, (f x).length = s) (hs : 0 < s) : ∃ (A : Option Addr) (c : Nat), v = .slice A l.length c ∧ l.length ≤ c ∧
    ∀ (k : Nat) (hk : k < l.length), ∃ g, A = some ⟨g, 0, none⟩ ∧ g < W.heap.size ∧ ∀ i, i < s → W.cell? ⟨g, k * s + i, none⟩ = (f l[k])[i]? := by
  obtain ⟨A, c, hv, hc, hj⟩ := h
  refine ⟨A, c, hv, hc, fun k hk => ?_⟩
  have hm : ∀ i, i < s → k * s + i < l.length * s := fun i hi => by
    have h1 : (k + 1) * s ≤ l.length * s := Nat.mul_le_mul_right s hk
    have h2 : (k + 1) * s = k * s + s := Nat.succ_mul k s
    omega
  obtain ⟨g, hA, hg, _⟩ := hj (k * s + 0) (hm 0 hs)
  refine ⟨g, hA, hg, fun i hi => ?_⟩
  obtain ⟨g', hA', _, h0⟩ := hj (k * s + i) (hm i hi)
  rw [hA] at hA'
  injection hA' with hA'
  injection hA' with hA' _ _
  rw [hA', h0, flat_at f s hf l k i hk hi]
def near3 (p : PntD) (m : Int) : Bool := decide ((-m ≤ p.x ∧ p.x ≤ m) ∧ (-m ≤ p.y ∧ p.y ≤ m) ∧ (-m ≤ p.z ∧ p.z ≤ m))
set_option linter.unusedSimpArgs false in
set_option linter.unusedVariables false in
set_option maxRecDepth 100000 in
set_option maxHeartbeats 6400000 in
theorem rNear_any (p : PntD) (m : Int) (w : World) (h0 : 0 ≤ m) (h1 : m ≤ 1099511627776) (hx : -m ≤ p.x ∧ p.x ≤ m) (hy : -m ≤ p.y ∧ p.y ≤ m) (hz : -m ≤ p.z ∧ p.z ≤ m) :
    Calls Tryd.prog 48 #[ .agg (pntC p), .int .i64 m ] w fun e w' => e = .returned (.bool true) ∧ Below w.heap.size w w' := by
  obtain ⟨x, y, z⟩ := p
  simp only at hx hy hz
  simp only [pntC]
  have B0 := Lib.hid ((Below.refl w.heap.size w).alloc (Nat.le_refl _) (.cells #[.int .i64 x, .int .i64 y, .int .i64 z] 75))
  go_enter Tryd.func48, Tryd.ntmps48
  go_wp2_with fail
  go_loop [5] (fun i => ∃ k : Nat, k ≤ 3 ∧ i = .int .i64 k) (fun i => 3 - (intOf i).toNat)
  case atStart => exact ⟨0, by omega, rfl⟩
  case round =>
    obtain ⟨k, hk, rfl⟩ := hrel
    by_cases hlt : k < 3
    · rcases (show k = 0 ∨ k = 1 ∨ k = 2 by omega) with rfl | rfl | rfl
      all_goals
        go_wp2_with fail
        go_round
        case rel => first | exact ⟨1, by omega, rfl⟩ | exact ⟨2, by omega, rfl⟩ | exact ⟨3, by omega, rfl⟩
        case measure => simp [intOf]
    · go_wp2_with fail
      go_ret
      exact ⟨rfl, B0.out⟩
set_option linter.unusedSimpArgs false in
set_option linter.unusedVariables false in
set_option maxRecDepth 100000 in
set_option maxHeartbeats 6400000 in
theorem rIsLink_any (A : Option Addr) (n c : Nat) (vm : Value) (k : Int) (w : World) (hk : -1 ≤ k) (hn : k < n) (n1 : n ≤ 1000) :
    Calls Tryd.prog 46 #[ .agg #[.slice A n c, vm], .int .i64 k ] w fun e w' => e = .returned (.bool true) ∧ Below w.heap.size w w' := by
  have B0 := Lib.hid ((Below.refl w.heap.size w).alloc (Nat.le_refl _) (.cells #[.slice A n c, vm] 37))
  go_enter Tryd.func46, Tryd.ntmps46
  go_wp2_with fail
  go_ret
  exact ⟨rfl, B0.out⟩
def linkN (js : List JointD) (k : Int) : ByteArray := if k = -1 then ⟨#[119, 111, 114, 108, 100]⟩ else (js.getD k.toNat zeroJ).name
set_option linter.unusedSimpArgs false in
set_option linter.unusedVariables false in
set_option maxRecDepth 100000 in
set_option maxHeartbeats 6400000 in
theorem rLinkName_any (js : List JointD) (vj vm : Value) (k : Int) (w : World) (hj : RdC w vj js.length 12 (jcells js)) (hk : -1 ≤ k) (hn : k < js.length) (n1 : js.length ≤ 1000) :
    Calls Tryd.prog 29 #[ .agg #[vj, vm], .int .i64 k ] w fun e w' => e = .returned (.string (linkN js k)) ∧ Below w.heap.size w w' := by
  have B0 := Lib.hid ((Below.refl w.heap.size w).alloc (Nat.le_refl _) (.cells #[vj, vm] 37))
  have hj2 := hj.below B0.out (Nat.le_refl _)
  obtain ⟨A, c, rfl, hc, hat⟩ := RdC.at hj2 (fun j => by rfl) (by decide)
  clear hj hj2
  by_cases h1 : k = -1
  · subst h1
    have hl : linkN js (-1) = ⟨#[119, 111, 114, 108, 100]⟩ := by unfold linkN; rw [if_pos rfl]
    rw [hl]
    clear hat hl
    go_enter Tryd.func29, Tryd.ntmps29
    go_wp2_with fail
    go_ret
    exact ⟨rfl, B0.out⟩
  · obtain ⟨i, hi⟩ : ∃ i : Nat, k = i := ⟨k.toNat, by omega⟩
    subst hi
    have hil : i < js.length := by omega
    obtain ⟨g, rfl, hg, hcell⟩ := hat i hil
    have c0 := hcell 0 (by decide)
    have hl : linkN js (i : Int) = js[i].name := by unfold linkN; rw [if_neg h1, Int.toNat_natCast, List.getD_eq_getElem?_getD, List.getElem?_eq_getElem hil]; rfl
    rw [hl]
    obtain ⟨j, hje⟩ : ∃ j, js[i] = j := ⟨_, rfl⟩
    rw [hje] at c0 ⊢
    simp only [jointC, Nat.add_zero] at c0
    clear hcell hat hl hje
    go_enter Tryd.func29, Tryd.ntmps29
    go_wp2_with fail
    go_ret
    exact ⟨rfl, B0.out⟩
/-- Some texts that are words, in memory of the call's own. -/
def WrtP (w : World) (n : Nat) (e : Ending) (w' : World) : Prop := ∃ (v : Value) (bs : List ByteArray), e = .returned v ∧ bs.length = n ∧ (∀ b ∈ bs, ArgT b) ∧ OwnT w.heap.size w' v bs ∧ Below w.heap.size w w'
set_option linter.unusedSimpArgs false in
set_option linter.unusedVariables false in
set_option maxRecDepth 100000 in
set_option maxHeartbeats 6400000 in
theorem rWritten_any (u : Value) (n : Nat) (f : Nat → Int) (w : World) (hu : RdC w u n 1 ((List.range n).map fun k => .int .i64 (f k))) (hn : n ≤ 100) (hf : ∀ k, -9223372036854775808 ≤ f k ∧ f k ≤ 9223372036854775807) :
    Calls Tryd.prog 30 #[ u ] w (WrtP w n) := by
  have HU := Lib.hid hu
  obtain ⟨A, c, rfl, hc, hk⟩ := hu
  clear hk
  obtain ⟨z0, hi, hz0, hz1, hz2⟩ := info_parts info_str
  have Z0 := Lib.hid hi
  have Z1 := Lib.hid hz0
  have Z2 := Lib.hid hz1
  have Z3 := Lib.hid hz2
  clear hi hz0 hz1 hz2
  unfold WrtP
  go_enter Tryd.func30, Tryd.ntmps30
  go_wp2_with fail
  go_loopw [3, 4] (fun v i wr => ∃ (k : Nat) (bs : List ByteArray), k ≤ n ∧ i = .int .i64 k ∧ bs.length = k ∧ (∀ b ∈ bs, ArgT b) ∧ OwnT w.heap.size wr v bs ∧ Below w.heap.size w wr) (fun _ i _ => n - (intOf i).toNat)
  case atStart => exact ⟨0, [], Nat.zero_le _, rfl, rfl, by simp, World.ownsRow_nil _ _ _ _, Below.refl _ _⟩
  case round =>
    obtain ⟨k, bs, hkn, rfl, hbl, hba, hown, hb⟩ := hrel
    obtain ⟨q5, k5, c5, rfl⟩ := own_slc hown
    have HO := Lib.hid hown
    have HB := Lib.hid hb
    have HA := Lib.hid hba
    clear hown hba
    by_cases hlt : k < n
    · obtain ⟨_, _, ea, _, hk⟩ := HU.out.below hb (Nat.le_refl _)
      injection ea with ea _ ec
      subst ea ec
      obtain ⟨g, rfl, hg, a0⟩ := hk k (by omega)
      rw [List.getElem?_map, List.getElem?_range hlt] at a0
      simp only [Option.map_some] at a0
      obtain ⟨f1, f2⟩ := hf k
      obtain ⟨x, hx⟩ : ∃ x, f k = x := ⟨_, rfl⟩
      rw [hx] at a0 f1 f2
      have HBL := Lib.hid hbl
      have hb1 : bs.length ≤ 100 := by omega
      clear hx hk hb hbl
      go_wp2_with fail
      refine (rFormat_any x _ f1 f2).mono ?_
      rintro e w1 ⟨b, rfl, hfb, rfl⟩
      have HAB := Lib.hid (fmt_arg hfb (by omega))
      have HOA := Lib.hid (World.ownsRow.alloc HO.out (.cells #[.string b] 9))
      have hsz := HB.out.size
      clear hfb
      go_wp2_with (first | (at_builtin; refine wpList_append_own _ rfl (.tmp 11) (.tmp 17) 53 rfl w.heap.size 9 z0 (.string ⟨#[]⟩) 1 16 under_strs Z0.out Z1.out Z2.out Z3.out rfl (by decide) _ bs.length (bs.map .string) rfl HOA.out ⟨wr.heap.size, 0, none⟩ 1 1 [.string b] rfl rfl (news1 wr _ _) (fun u hu => by simp at hu; subst hu; rfl) (by unfold maxLen; omega) (by omega) (by simp; omega) ?_))
      intro v' w1 hown' hgrow _
      have hPU : OwnT w.heap.size w1 v' (bs ++ [b]) := by
        unfold OwnT
        rw [List.length_append, List.map_append]
        exact hown'
      have hBN : Below w.heap.size w w1 := (HB.out.alloc HB.out.size _).grown hgrow (by simp; omega) (fun j hj => by have := (World.ownsRow.lt HO.out j hj).1; omega)
      have HPU := Lib.hid hPU
      have HBN := Lib.hid hBN
      clear hPU hBN hown' hgrow
      go_wp2_with fail
      go_roundw
      case rel => exact ⟨k + 1, bs ++ [b], by omega, by go_num, by rw [List.length_append, HBL.out]; rfl, fun y hy => by rcases List.mem_append.1 hy with hy | hy; exact HA.out y hy; simp at hy; subst hy; exact HAB.out, HPU.out, HBN.out⟩
      case measure => simp [intOf]; omega
    · have hke : k = n := by omega
      have HBL := Lib.hid (hbl.trans hke)
      clear hb
      go_wp2_with fail
      go_ret
      exact ⟨_, bs, rfl, HBL.out, HA.out, HO.out, HB.out⟩
end Go.Proofs.YtnahlpeckfcciaaDoor
