/- Proved: reading rows of structs; the reference's Near, isLink, linkName and written return what is stated here. Conditions: as each theorem states. · Proved: the reference's CheckRobot accepts what the makers make. Conditions: as each theorem states. · Proved: the reference's CheckRobot and CheckScene accept what the makers make. Conditions: as each theorem states. -/
import Derived.Test.YtpaiapcnoifpmaaDoorSy8
import Derived.Test.YtpaiapcnoifpmaaDoorMk4
import Derived.Test.YtpaiapcnoifpmaaDoorTk5
namespace Go.Proofs.YtpaiapcnoifpmaaDoor
open Go.RowKit

/-- A slice of structs of this size that reads as these cells. -/
def RdC (W : World) (v : Value) (n size : Nat) (xs : List Value) : Prop := ∃ (A : Option Addr) (c : Nat), v = .slice A n c ∧ n ≤ c ∧
  ∀ j, j < n * size → ∃ g, A = some ⟨g, 0, none⟩ ∧ g < W.heap.size ∧ W.cell? ⟨g, j, none⟩ = xs[j]?
theorem RdC.below {W V : World} {v : Value} {n size : Nat} {xs : List Value} {B : Nat} (h : RdC W v n size xs) (hb : Below B W V) (hB : W.heap.size ≤ B) : RdC V v n size xs := by
  obtain ⟨A, c, hv, hc, hk⟩ := h
  refine ⟨A, c, hv, hc, fun j hj => ?_⟩
  obtain ⟨g, hA, hg, h0⟩ := hk j hj
  have hs := hb.size
  exact ⟨g, hA, by omega, (hb.cell (p := ⟨g, j, none⟩) (by show g < B; omega)).trans h0⟩
theorem rdC_own {W : World} {B : Nat} {e : TypeId} {size n : Nat} {v : Value} {xs : List Value} (h : W.ownsRow B e size v n xs) : RdC W v n size xs := by
  rcases h.2 with ⟨hv, hn⟩ | ⟨g, cap, cur, hv, hbg, hcur, h1, h2, h3, h4⟩
  · subst hn
    exact ⟨none, 0, hv, Nat.le_refl _, fun j hj => by omega⟩
  · refine ⟨some ⟨g, 0, none⟩, cap, hv, h1, fun j hj => ⟨g, rfl, lt_of_block hcur, ?_⟩⟩
    subst hv
    rw [h.cellAt j hj]
theorem flat_at {α : Type} (f : α → List Value) (s : Nat) (hf : ∀ x, (f x).length = s) (l : List α) : ∀ (k i : Nat) (hk : k < l.length), i < s → (l.flatMap f)[k * s + i]? = (f l[k])[i]? := by
  induction l with
  | nil => intro k i hk; exact absurd hk (by simp)
  | cons x l ih =>
    intro k i hk hi
    rw [List.flatMap_cons]
    match k with
    | 0 => rw [Nat.zero_mul, Nat.zero_add, List.getElem?_append_left (by rw [hf]; exact hi)]; rfl
    | k + 1 =>
      rw [List.getElem?_append_right (by rw [hf]; have : (k + 1) * s = k * s + s := Nat.succ_mul k s; omega), hf]
      have : (k + 1) * s + i - s = k * s + i := by have : (k + 1) * s = k * s + s := Nat.succ_mul k s; omega
      rw [this]
      exact ih k i (by simpa using hk) hi
/-- Cell i of element k. -/
theorem RdC.at {α : Type} {W : World} {v : Value} {f : α → List Value} {s : Nat} {l : List α} (h : RdC W v l.length s (l.flatMap f)) (hf : ∀ x, (f x).length = s) (hs : 0 < s) : ∃ (A : Option Addr) (c : Nat), v = .slice A l.length c ∧ l.length ≤ c ∧
    ∀ (k : Nat) (hk : k < l.length), ∃ g, A = some ⟨g, 0, none⟩ ∧ g < W.heap.size ∧ ∀ i, i < s → W.cell? ⟨g, k * s + i, none⟩ = (f l[k])[i]? := by
  obtain ⟨A, c, hv, hc, hj⟩ := h
  refine ⟨A, c, hv, hc, fun k hk => ?_⟩
  have hm : ∀ i, i < s → k * s + i < l.length * s := fun i hi => by
    have h1 : (k + 1) * s ≤ l.length * s := Nat.mul_le_mul_right s hk
    have h2 : (k + 1) * s = k * s + s := Nat.succ_mul k s
    omega
  obtain ⟨g, hA, hg, _⟩ := hj (k * s + 0) (hm 0 hs)
  refine ⟨g, hA, hg, fun i hi => ?_⟩
  obtain ⟨g', hA', _, h0⟩ := hj (k * s + i) (hm i hi)
  rw [hA] at hA'
  injection hA' with hA'
  injection hA' with hA' _ _
  rw [hA', h0, flat_at f s hf l k i hk hi]
def near3 (p : PntD) (m : Int) : Bool := decide ((-m ≤ p.x ∧ p.x ≤ m) ∧ (-m ≤ p.y ∧ p.y ≤ m) ∧ (-m ≤ p.z ∧ p.z ≤ m))
set_option linter.unusedSimpArgs false in
set_option linter.unusedVariables false in
set_option maxRecDepth 100000 in
set_option maxHeartbeats 6400000 in
theorem rNear_any (p : PntD) (m : Int) (w : World) (h0 : 0 ≤ m) (h1 : m ≤ 1099511627776) (hx : -m ≤ p.x ∧ p.x ≤ m) (hy : -m ≤ p.y ∧ p.y ≤ m) (hz : -m ≤ p.z ∧ p.z ≤ m) :
    Calls Tryd.prog 37 #[ .agg (pntC p), .int .i64 m ] w fun e w' => e = .returned (.bool true) ∧ Below w.heap.size w w' := by
  obtain ⟨x, y, z⟩ := p
  simp only at hx hy hz
  simp only [pntC]
  have B0 := Lib.hid ((Below.refl w.heap.size w).alloc (Nat.le_refl _) (.cells #[.int .i64 x, .int .i64 y, .int .i64 z] 58))
  go_enter Tryd.func37, Tryd.ntmps37
  go_wp2_with fail
  go_loop [5] (fun i => ∃ k : Nat, k ≤ 3 ∧ i = .int .i64 k) (fun i => 3 - (intOf i).toNat)
  case atStart => exact ⟨0, by omega, rfl⟩
  case round =>
    obtain ⟨k, hk, rfl⟩ := hrel
    by_cases hlt : k < 3
    · rcases (show k = 0 ∨ k = 1 ∨ k = 2 by omega) with rfl | rfl | rfl
      all_goals
        go_wp2_with fail
        go_round
        case rel => first | exact ⟨1, by omega, rfl⟩ | exact ⟨2, by omega, rfl⟩ | exact ⟨3, by omega, rfl⟩
        case measure => simp [intOf]
    · go_wp2_with fail
      go_ret
      exact ⟨rfl, B0.out⟩
set_option linter.unusedSimpArgs false in
set_option linter.unusedVariables false in
set_option maxRecDepth 100000 in
set_option maxHeartbeats 6400000 in
theorem rIsLink_any (A : Option Addr) (n c : Nat) (vm : Value) (k : Int) (w : World) (hk : -1 ≤ k) (hn : k < n) (n1 : n ≤ 1000) :
    Calls Tryd.prog 69 #[ .agg #[.slice A n c, vm], .int .i64 k ] w fun e w' => e = .returned (.bool true) ∧ Below w.heap.size w w' := by
  have B0 := Lib.hid ((Below.refl w.heap.size w).alloc (Nat.le_refl _) (.cells #[.slice A n c, vm] 25))
  go_enter Tryd.func69, Tryd.ntmps69
  go_wp2_with fail
  go_ret
  exact ⟨rfl, B0.out⟩
def linkN (js : List JointD) (k : Int) : ByteArray := if k = -1 then ⟨#[119, 111, 114, 108, 100]⟩ else (js.getD k.toNat zeroJ).name
set_option linter.unusedSimpArgs false in
set_option linter.unusedVariables false in
set_option maxRecDepth 100000 in
set_option maxHeartbeats 6400000 in
theorem rLinkName_any (js : List JointD) (vj vm : Value) (k : Int) (w : World) (hj : RdC w vj js.length 12 (jcells js)) (hk : -1 ≤ k) (hn : k < js.length) (n1 : js.length ≤ 1000) :
    Calls Tryd.prog 40 #[ .agg #[vj, vm], .int .i64 k ] w fun e w' => e = .returned (.string (linkN js k)) ∧ Below w.heap.size w w' := by
  have B0 := Lib.hid ((Below.refl w.heap.size w).alloc (Nat.le_refl _) (.cells #[vj, vm] 25))
  have hj2 := hj.below B0.out (Nat.le_refl _)
  obtain ⟨A, c, rfl, hc, hat⟩ := RdC.at hj2 (fun j => by rfl) (by decide)
  clear hj hj2
  by_cases h1 : k = -1
  · subst h1
    have hl : linkN js (-1) = ⟨#[119, 111, 114, 108, 100]⟩ := by unfold linkN; rw [if_pos rfl]
    rw [hl]
    clear hat hl
    go_enter Tryd.func40, Tryd.ntmps40
    go_wp2_with fail
    go_ret
    exact ⟨rfl, B0.out⟩
  · obtain ⟨i, hi⟩ : ∃ i : Nat, k = i := ⟨k.toNat, by omega⟩
    subst hi
    have hil : i < js.length := by omega
    obtain ⟨g, rfl, hg, hcell⟩ := hat i hil
    have c0 := hcell 0 (by decide)
    have hl : linkN js (i : Int) = js[i].name := by unfold linkN; rw [if_neg h1, Int.toNat_natCast, List.getD_eq_getElem?_getD, List.getElem?_eq_getElem hil]; rfl
    rw [hl]
    obtain ⟨j, hje⟩ : ∃ j, js[i] = j := ⟨_, rfl⟩
    rw [hje] at c0 ⊢
    simp only [jointC, Nat.add_zero] at c0
    clear hcell hat hl hje
    go_enter Tryd.func40, Tryd.ntmps40
    go_wp2_with fail
    go_ret
    exact ⟨rfl, B0.out⟩
/-- Some texts that are words, in memory of the call's own. -/
def WrtP (w : World) (n : Nat) (e : Ending) (w' : World) : Prop := ∃ (v : Value) (bs : List ByteArray), e = .returned v ∧ bs.length = n ∧ (∀ b ∈ bs, ArgT b) ∧ OwnT w.heap.size w' v bs ∧ Below w.heap.size w w'
set_option linter.unusedSimpArgs false in
set_option linter.unusedVariables false in
set_option maxRecDepth 100000 in
set_option maxHeartbeats 6400000 in
theorem rWritten_any (u : Value) (n : Nat) (f : Nat → Int) (w : World) (hu : RdC w u n 1 ((List.range n).map fun k => .int .i64 (f k))) (hn : n ≤ 100) (hf : ∀ k, -9223372036854775808 ≤ f k ∧ f k ≤ 9223372036854775807) :
    Calls Tryd.prog 41 #[ u ] w (WrtP w n) := by
  have HU := Lib.hid hu
  obtain ⟨A, c, rfl, hc, hk⟩ := hu
  clear hk
  obtain ⟨z0, hi, hz0, hz1, hz2⟩ := info_parts info_str
  have Z0 := Lib.hid hi
  have Z1 := Lib.hid hz0
  have Z2 := Lib.hid hz1
  have Z3 := Lib.hid hz2
  clear hi hz0 hz1 hz2
  unfold WrtP
  go_enter Tryd.func41, Tryd.ntmps41
  go_wp2_with fail
  go_loopw [3, 4] (fun v i wr => ∃ (k : Nat) (bs : List ByteArray), k ≤ n ∧ i = .int .i64 k ∧ bs.length = k ∧ (∀ b ∈ bs, ArgT b) ∧ OwnT w.heap.size wr v bs ∧ Below w.heap.size w wr) (fun _ i _ => n - (intOf i).toNat)
  case atStart => exact ⟨0, [], Nat.zero_le _, rfl, rfl, by simp, World.ownsRow_nil _ _ _ _, Below.refl _ _⟩
  case round =>
    obtain ⟨k, bs, hkn, rfl, hbl, hba, hown, hb⟩ := hrel
    obtain ⟨q5, k5, c5, rfl⟩ := own_slc hown
    have HO := Lib.hid hown
    have HB := Lib.hid hb
    have HA := Lib.hid hba
    clear hown hba
    by_cases hlt : k < n
    · obtain ⟨_, _, ea, _, hk⟩ := HU.out.below hb (Nat.le_refl _)
      injection ea with ea _ ec
      subst ea ec
      obtain ⟨g, rfl, hg, a0⟩ := hk k (by omega)
      rw [List.getElem?_map, List.getElem?_range hlt] at a0
      simp only [Option.map_some] at a0
      obtain ⟨f1, f2⟩ := hf k
      obtain ⟨x, hx⟩ : ∃ x, f k = x := ⟨_, rfl⟩
      rw [hx] at a0 f1 f2
      have HBL := Lib.hid hbl
      have hb1 : bs.length ≤ 100 := by omega
      clear hx hk hb hbl
      go_wp2_with fail
      refine (rFormat_any x _ f1 f2).mono ?_
      rintro e w1 ⟨b, rfl, hfb, rfl⟩
      have HAB := Lib.hid (fmt_arg hfb (by omega))
      have HOA := Lib.hid (World.ownsRow.alloc HO.out (.cells #[.string b] 9))
      have hsz := HB.out.size
      clear hfb
      go_wp2_with (first | (at_builtin; refine wpList_append_own _ rfl (.tmp 11) (.tmp 17) 41 rfl w.heap.size 9 z0 (.string ⟨#[]⟩) 1 16 under_strs Z0.out Z1.out Z2.out Z3.out rfl (by decide) _ bs.length (bs.map .string) rfl HOA.out ⟨wr.heap.size, 0, none⟩ 1 1 [.string b] rfl rfl (news1 wr _ _) (fun u hu => by simp at hu; subst hu; rfl) (by unfold maxLen; omega) (by omega) (by simp; omega) ?_))
      intro v' w1 hown' hgrow _
      have hPU : OwnT w.heap.size w1 v' (bs ++ [b]) := by
        unfold OwnT
        rw [List.length_append, List.map_append]
        exact hown'
      have hBN : Below w.heap.size w w1 := (HB.out.alloc HB.out.size _).grown hgrow (by simp; omega) (fun j hj => by have := (World.ownsRow.lt HO.out j hj).1; omega)
      have HPU := Lib.hid hPU
      have HBN := Lib.hid hBN
      clear hPU hBN hown' hgrow
      go_wp2_with fail
      go_roundw
      case rel => exact ⟨k + 1, bs ++ [b], by omega, by go_num, by rw [List.length_append, HBL.out]; rfl, fun y hy => by rcases List.mem_append.1 hy with hy | hy; exact HA.out y hy; simp at hy; subst hy; exact HAB.out, HPU.out, HBN.out⟩
      case measure => simp [intOf]; omega
    · have hke : k = n := by omega
      have HBL := Lib.hid (hbl.trans hke)
      clear hb
      go_wp2_with fail
      go_ret
      exact ⟨_, bs, rfl, HBL.out, HA.out, HO.out, HB.out⟩
end Go.Proofs.YtpaiapcnoifpmaaDoor
namespace Go.Proofs.YtpaiapcnoifpmaaDoor
open Go.RowKit

theorem name_good (i : Nat) (h : i < 3) : nameS (bts (nameJ i)) = true ∧ ArgT (nameJ i) := by
  rcases (show i = 0 ∨ i = 1 ∨ i = 2 by omega) with rfl | rfl | rfl
  all_goals unfold ArgT; decide
theorem name_apart (i k : Nat) (h : i < 3) (hk : k < i) : ((nameJ k).toList == (nameJ i).toList) = false := by
  rcases (show i = 1 ∧ k = 0 ∨ i = 2 ∧ k = 0 ∨ i = 2 ∧ k = 1 by omega) with ⟨rfl, rfl⟩ | ⟨rfl, rfl⟩ | ⟨rfl, rfl⟩
  all_goals (rw [bts_eq]; decide)
/-- The cells of joint k. -/
theorem RdC.joint {W : World} {v : Value} {js : List JointD} (h : RdC W v js.length 12 (jcells js)) : ∃ (A : Option Addr) (c : Nat), v = .slice A js.length c ∧ js.length ≤ c ∧
    ∀ (k : Nat) (hk : k < js.length), ∃ g, A = some ⟨g, 0, none⟩ ∧ g < W.heap.size ∧ W.cell? ⟨g, k * 12, none⟩ = some (.string js[k].name) ∧ W.cell? ⟨g, k * 12 + 1, none⟩ = some (.int .i64 js[k].kind) ∧ W.cell? ⟨g, k * 12 + 2, none⟩ = some (.int .i64 js[k].parent) ∧
      W.cell? ⟨g, k * 12 + 3, none⟩ = some (.int .i64 js[k].x) ∧ W.cell? ⟨g, k * 12 + 4, none⟩ = some (.int .i64 js[k].y) ∧ W.cell? ⟨g, k * 12 + 5, none⟩ = some (.int .i64 js[k].z) ∧ W.cell? ⟨g, k * 12 + 6, none⟩ = some (.int .i64 js[k].lo) ∧
      W.cell? ⟨g, k * 12 + 7, none⟩ = some (.int .i64 js[k].hi) ∧ W.cell? ⟨g, k * 12 + 8, none⟩ = some (.int .i64 js[k].weight) ∧ W.cell? ⟨g, k * 12 + 9, none⟩ = some (.int .i64 js[k].speed) ∧ W.cell? ⟨g, k * 12 + 10, none⟩ = some (.int .i64 js[k].accel) ∧
      W.cell? ⟨g, k * 12 + 11, none⟩ = some (.int .i64 js[k].torque) := by
  obtain ⟨A, c, hv, hc, hat⟩ := RdC.at h (fun j => by rfl) (by decide)
  refine ⟨A, c, hv, hc, fun k hk => ?_⟩
  obtain ⟨g, hA, hg, hi⟩ := hat k hk
  exact ⟨g, hA, hg, hi 0 (by decide), hi 1 (by decide), hi 2 (by decide), hi 3 (by decide), hi 4 (by decide), hi 5 (by decide), hi 6 (by decide), hi 7 (by decide), hi 8 (by decide), hi 9 (by decide), hi 10 (by decide), hi 11 (by decide)⟩
theorem JointAt.below {W V : World} {b B : Nat} {j : JointD} (h : JointAt W b j) (hb : Below B W V) (hB : b < B) : JointAt V b j := (hb.block b hB).trans h
theorem JointAt.drewN {W : World} {b : Nat} {j : JointD} (h : JointAt W b j) (n : Nat) : JointAt (W.drewN n) b j := h
theorem JointAt.all {W : World} {b : Nat} {j : JointD} (h : JointAt W b j) : W.cell? ⟨b, 0, none⟩ = some (.string j.name) ∧ W.cell? ⟨b, 1, none⟩ = some (.int .i64 j.kind) ∧ W.cell? ⟨b, 2, none⟩ = some (.int .i64 j.parent) ∧ W.cell? ⟨b, 3, none⟩ = some (.int .i64 j.x) ∧
    W.cell? ⟨b, 4, none⟩ = some (.int .i64 j.y) ∧ W.cell? ⟨b, 5, none⟩ = some (.int .i64 j.z) ∧ W.cell? ⟨b, 6, none⟩ = some (.int .i64 j.lo) ∧ W.cell? ⟨b, 7, none⟩ = some (.int .i64 j.hi) ∧ W.cell? ⟨b, 8, none⟩ = some (.int .i64 j.weight) ∧
    W.cell? ⟨b, 9, none⟩ = some (.int .i64 j.speed) ∧ W.cell? ⟨b, 10, none⟩ = some (.int .i64 j.accel) ∧ W.cell? ⟨b, 11, none⟩ = some (.int .i64 j.torque) :=
  ⟨h.cell 0, h.cell 1, h.cell 2, h.cell 3, h.cell 4, h.cell 5, h.cell 6, h.cell 7, h.cell 8, h.cell 9, h.cell 10, h.cell 11⟩
/-- What the checks ask of a joint's numbers. -/
structure FineJ (i : Nat) (j : JointD) : Prop where
  k0 : 0 ≤ j.kind
  k6 : j.kind ≤ 6
  p0 : -1 ≤ j.parent
  p1 : j.parent < i
  x : -4194304 ≤ j.x ∧ j.x ≤ 4194304
  y : -4194304 ≤ j.y ∧ j.y ≤ 4194304
  z : -4194304 ≤ j.z ∧ j.z ≤ 4194304
  lh : j.lo ≤ j.hi
  l0 : -(reachK j.kind) ≤ j.lo
  h1 : j.hi ≤ reachK j.kind
  we : (decide (1 ≤ j.weight) && decide (j.weight ≤ 1024)) = true
  sp : (decide (1 ≤ j.speed) && decide (j.speed ≤ 1048576)) = true
  ac : (decide (1 ≤ j.accel) && decide (j.accel ≤ 1048576)) = true
  tq : (decide (1 ≤ j.torque) && decide (j.torque ≤ 1099511627776)) = true
theorem reach_cases (k : Int) : k = 0 ∧ reachK k = 0 ∨ (1 ≤ k ∧ k ≤ 3) ∧ reachK k = 524288 ∨ (k < 0 ∨ 3 < k) ∧ reachK k = 4194304 := by
  unfold reachK
  split
  · exact .inl ⟨by assumption, rfl⟩
  · split
    · exact .inr (.inl ⟨by assumption, rfl⟩)
    · exact .inr (.inr ⟨by omega, rfl⟩)
theorem fine_made {i : Nat} {j : JointD} (h : MadeJ i j) : FineJ i j := by
  obtain ⟨_, h1, h2, h3, h4, h5, h6, h7, h8, h9, h10, h11, h12, h13, h14⟩ := h
  have hr := reach_cases j.kind
  exact ⟨h1, by omega, by omega, by omega, by omega, by omega, by omega, by omega, by omega, by omega, by simp; omega, by simp; omega, by simp; omega, by simp; omega⟩
set_option linter.unusedSimpArgs false in
set_option linter.unusedVariables false in
set_option maxRecDepth 100000 in
set_option maxHeartbeats 6400000 in
theorem rCheckJoint_any (js : List JointD) (vj : Value) (i : Nat) (w : World) (hj : RdC w vj js.length 12 (jcells js)) (hi : i < js.length) (hl : js.length ≤ 3) (hm : ∀ k (h : k < js.length), MadeJ k js[k]) :
    Calls Tryd.prog 35 #[ vj, .int .i64 i ] w fun e w' => e = .returned (.int .i64 0) ∧ Below w.heap.size w w' := by
  have HJ := Lib.hid hj
  have HM := Lib.hid hm
  obtain ⟨A, c, rfl, hc, hat⟩ := RdC.joint hj
  obtain ⟨g, rfl, hg, c0, c1, c2, c3, c4, c5, c6, c7, c8, c9, c10, c11⟩ := hat i hi
  have hf := fine_made (hm i hi)
  have hn : js[i].name = nameJ i := (hm i hi).1
  have HN := Lib.hid hn
  obtain ⟨j, hje⟩ : ∃ j, js[i] = j := ⟨_, rfl⟩
  rw [hje] at c0 c1 c2 c3 c4 c5 c6 c7 c8 c9 c10 c11 hf HN
  have hng := (name_good i (by omega)).1
  rw [← HN.out] at hng
  have HF := Lib.hid hf
  have HG := Lib.hid hng
  have HA := Lib.hid hat
  clear hj hm hat hf hn hng hje
  have J0 := Lib.hid (JointAt.at_new (V := w) (j := j) rfl)
  have B0 := Lib.hid ((Below.refl w.heap.size w).alloc (Nat.le_refl _) (.cells (jointC j) 60))
  simp only [jointC] at J0 B0
  go_enter Tryd.func35, Tryd.ntmps35
  go_wp2_with fail
  refine (rName_any _ _).mono ?_
  rintro e w1 ⟨rfl, rfl⟩
  rw [HG.out]
  go_wp2_with fail
  clear c0 c1 c2 c3 c4 c5 c6 c7 c8 c9 c10 c11
  obtain ⟨V, hV⟩ : ∃ V, w.alloc (.cells #[.string j.name, .int .i64 j.kind, .int .i64 j.parent, .int .i64 j.x, .int .i64 j.y, .int .i64 j.z, .int .i64 j.lo, .int .i64 j.hi, .int .i64 j.weight, .int .i64 j.speed, .int .i64 j.accel, .int .i64 j.torque] 60) = V := ⟨_, rfl⟩
  have hJ0 : JointAt V w.heap.size j := by rw [← hV]; exact J0.out
  have hB0 : Below w.heap.size w V := by rw [← hV]; exact B0.out
  rw [hV]
  have JV := Lib.hid hJ0
  have BV := Lib.hid hB0
  clear hV hJ0 hB0 J0 B0
  go_loopw [6] (fun i' wr => ∃ k : Nat, k ≤ i ∧ i' = .int .i64 k ∧ JointAt wr w.heap.size j ∧ Below w.heap.size w wr) (fun i' _ => i - (intOf i').toNat)
  case atStart => exact ⟨0, Nat.zero_le _, rfl, JV.out, BV.out⟩
  case round =>
    obtain ⟨k, hk, rfl, hJ, hB⟩ := hrel
    have JR := Lib.hid hJ
    have BR := Lib.hid hB
    by_cases hlt : k < i
    · obtain ⟨_, hgg, hgl, a0, _⟩ := HA.out k (by omega)
      injection hgg with hgg
      injection hgg with hgg _ _
      subst hgg
      have hnk : js[k].name = nameJ k := (HM.out k (by omega)).1
      rw [hnk] at a0
      have e0 := (hB.cell (p := ⟨g, k * 12, none⟩) hgl).trans a0
      obtain ⟨d0, _⟩ := hJ.all
      rw [HN.out] at d0
      have hap := name_apart i k (by omega) hlt
      obtain ⟨nk, hk1⟩ : ∃ b, nameJ k = b := ⟨_, rfl⟩
      obtain ⟨ni, hi1⟩ : ∃ b, nameJ i = b := ⟨_, rfl⟩
      rw [hk1] at e0 hap
      rw [hi1] at d0 hap
      have hgr : g < wr.heap.size := by have := hB.size; omega
      have hwr : w.heap.size < wr.heap.size := hJ.lt
      clear hJ hB a0 hnk hk1 hi1
      go_wp2_with fail
      go_quiet (fail)
      go_wp2_with fail
      go_roundw
      case rel => exact ⟨k + 1, by omega, by go_num, JR.out.drewN _, bl_drewN BR.out⟩
      case measure => simp [intOf]; omega
    · obtain ⟨d0, d1, d2, d3, d4, d5, d6, d7, d8, d9, d10, d11⟩ := hJ.all
      have hk0 := HF.out.k0
      have hk6 := HF.out.k6
      have hp0 := HF.out.p0
      have hp1 := HF.out.p1
      have hwr : w.heap.size < wr.heap.size := hJ.lt
      clear hJ hB
      go_wp2_with fail
      refine (rNear_any ⟨j.x, j.y, j.z⟩ 4194304 _ (by decide) (by decide) HF.out.x HF.out.y HF.out.z).mono ?_
      rintro e w1 ⟨rfl, hb⟩
      have hJ1 : JointAt w1 w.heap.size j := JR.out.below hb hwr
      have B1 := Lib.hid (bl_next hb BR.out)
      obtain ⟨d0, d1, d2, d3, d4, d5, d6, d7, d8, d9, d10, d11⟩ := hJ1.all
      clear hb hJ1
      go_wp2_with fail
      refine (rReach_any j.kind _).mono ?_
      rintro e w2 ⟨rfl, rfl⟩
      have hlh := HF.out.lh
      have hl0 := HF.out.l0
      have hh1 := HF.out.h1
      have hrc := reach_cases j.kind
      obtain ⟨r, hr⟩ : ∃ r, reachK j.kind = r := ⟨_, rfl⟩
      rw [hr] at hl0 hh1 hrc ⊢
      have hr0 : 0 ≤ r := by omega
      have hr1 : r ≤ 4194304 := by omega
      clear hrc hr
      go_wp2_with fail
      refine (rBetween_any j.weight 1 1024 _).mono ?_
      rintro e w2 ⟨rfl, rfl⟩
      rw [HF.out.we]
      go_wp2_with fail
      refine (rBetween_any j.speed 1 1048576 _).mono ?_
      rintro e w2 ⟨rfl, rfl⟩
      rw [HF.out.sp]
      go_wp2_with fail
      refine (rBetween_any j.accel 1 1048576 _).mono ?_
      rintro e w2 ⟨rfl, rfl⟩
      rw [HF.out.ac]
      go_wp2_with fail
      refine (rBetween_any j.torque 1 1099511627776 _).mono ?_
      rintro e w2 ⟨rfl, rfl⟩
      rw [HF.out.tq]
      go_wp2_with fail
      go_ret
      exact ⟨rfl, B1.out⟩
end Go.Proofs.YtpaiapcnoifpmaaDoor
namespace Go.Proofs.YtpaiapcnoifpmaaDoor
open Go.RowKit

theorem RobAt.below {W V : World} {b B : Nat} {vj vm : Value} (h : RobAt W b vj vm) (hb : Below B W V) (hB : b < B) : RobAt V b vj vm := (hb.block b hB).trans h
theorem RobAt.lt' {W : World} {q : Nat} {vj vm : Value} (h : RobAt W q vj vm) : q < W.heap.size := lt_of_block h
theorem RobAt.box {V : World} {q : Nat} {vj vm : Value} (hb : V.heap.size = q) : RobAt (V.alloc (.cells #[vj, vm] 25)) q vj vm := by subst hb; exact heap_alloc_new _ _
theorem RdC.mass {W : World} {v : Value} {ms : List MassD} (h : RdC W v ms.length 5 (mcells ms)) : ∃ (A : Option Addr) (c : Nat), v = .slice A ms.length c ∧ ms.length ≤ c ∧
    ∀ (k : Nat) (hk : k < ms.length), ∃ g, A = some ⟨g, 0, none⟩ ∧ g < W.heap.size ∧ W.cell? ⟨g, k * 5, none⟩ = some (.int .i64 ms[k].link) ∧ W.cell? ⟨g, k * 5 + 1, none⟩ = some (.int .i64 ms[k].mass) ∧ W.cell? ⟨g, k * 5 + 2, none⟩ = some (.int .i64 ms[k].x) ∧
      W.cell? ⟨g, k * 5 + 3, none⟩ = some (.int .i64 ms[k].y) ∧ W.cell? ⟨g, k * 5 + 4, none⟩ = some (.int .i64 ms[k].z) := by
  obtain ⟨A, c, hv, hc, hat⟩ := RdC.at h (fun j => by rfl) (by decide)
  refine ⟨A, c, hv, hc, fun k hk => ?_⟩
  obtain ⟨g, hA, hg, hi⟩ := hat k hk
  exact ⟨g, hA, hg, hi 0 (by decide), hi 1 (by decide), hi 2 (by decide), hi 3 (by decide), hi 4 (by decide)⟩
/-- A robot that the makers made. -/
structure RobM (W : World) (vj vm : Value) (js : List JointD) (ms : List MassD) : Prop where
  rj : RdC W vj js.length 12 (jcells js)
  rm : RdC W vm ms.length 5 (mcells ms)
  l1 : 1 ≤ js.length
  l3 : js.length ≤ 3
  m2 : ms.length ≤ 2
  mj : ∀ k (h : k < js.length), MadeJ k js[k]
  mm : ∀ k (h : k < ms.length), MadeM js.length ms[k]
theorem RobM.below {W V : World} {vj vm : Value} {js : List JointD} {ms : List MassD} {B : Nat} (h : RobM W vj vm js ms) (hb : Below B W V) (hB : W.heap.size ≤ B) : RobM V vj vm js ms :=
  ⟨h.rj.below hb hB, h.rm.below hb hB, h.l1, h.l3, h.m2, h.mj, h.mm⟩
set_option linter.unusedSimpArgs false in
set_option linter.unusedVariables false in
set_option maxRecDepth 100000 in
set_option maxHeartbeats 6400000 in
theorem rCheckRobot_any (js : List JointD) (ms : List MassD) (vj vm : Value) (w : World) (hr : RobM w vj vm js ms) :
    Calls Tryd.prog 13 #[ .agg #[vj, vm] ] w fun e w' => e = .returned (.int .i64 0) ∧ Below w.heap.size w w' := by
  have HR := Lib.hid hr
  obtain ⟨Aj, cj, rfl, hcj, _⟩ := hr.rj.joint
  obtain ⟨Am, cm, rfl, hcm, _⟩ := hr.rm.mass
  have l1 := hr.l1
  have l3 := hr.l3
  have m2 := hr.m2
  clear hr
  have hR0 := RobAt.box (V := w) (vj := .slice Aj js.length cj) (vm := .slice Am ms.length cm) rfl
  have B0 := Lib.hid ((Below.refl w.heap.size w).alloc (Nat.le_refl _) (.cells #[.slice Aj js.length cj, .slice Am ms.length cm] 25))
  have R0 := Lib.hid hR0
  clear hR0
  go_enter Tryd.func13, Tryd.ntmps13
  go_wp2_with fail
  go_loopw [3] (fun i wr => ∃ k : Nat, k ≤ js.length ∧ i = .int .i64 k ∧ RobAt wr w.heap.size (.slice Aj js.length cj) (.slice Am ms.length cm) ∧ Below w.heap.size w wr) (fun i _ => js.length - (intOf i).toNat)
  case atStart => exact ⟨0, Nat.zero_le _, rfl, R0.out, B0.out⟩
  case round =>
    obtain ⟨k, hk, rfl, hR, hB⟩ := hrel
    have RR := Lib.hid hR
    have BR := Lib.hid hB
    have r0 := hR.c0
    have r1 := hR.c1
    clear R0 B0
    by_cases hlt : k < js.length
    · have HJ := Lib.hid (HR.out.rj.below hB (Nat.le_refl _))
      have hq := hR.lt'
      clear hR hB
      go_wp2_with fail
      refine (rCheckJoint_any js _ k _ HJ.out hlt l3 HR.out.mj).mono ?_
      rintro e w1 ⟨rfl, hb⟩
      have RR1 := Lib.hid (RR.out.below hb hq)
      have BR1 := Lib.hid (bl_next hb BR.out)
      clear hb r0 r1
      go_wp2_with fail
      go_roundw
      case rel => exact ⟨k + 1, by omega, by go_num, RR1.out, BR1.out⟩
      case measure => simp [intOf]; omega
    · clear hR hB
      go_wp2_with fail
      clear r0 r1
      obtain ⟨wo, hwo⟩ : ∃ wo, wo = wr := ⟨_, rfl⟩
      subst hwo
      go_loopw [5] (fun i wr => ∃ k : Nat, k ≤ ms.length ∧ i = .int .i64 k ∧ RobAt wr w.heap.size (.slice Aj js.length cj) (.slice Am ms.length cm) ∧ Below w.heap.size w wr) (fun i _ => ms.length - (intOf i).toNat)
      case atStart => exact ⟨0, Nat.zero_le _, rfl, RR.out, BR.out⟩
      case round =>
        obtain ⟨k, hk, rfl, hR, hB⟩ := hrel
        clear RR BR
        have RR := Lib.hid hR
        have BR := Lib.hid hB
        have r0 := hR.c0
        have r1 := hR.c1
        have hq := hR.lt'
        by_cases hlt : k < ms.length
        · obtain ⟨_, _, ea, _, hm⟩ := (HR.out.rm.below hB (Nat.le_refl _)).mass
          injection ea with ea _ ec
          subst ea ec
          obtain ⟨g, rfl, hg, c0, c1, c2, c3, c4⟩ := hm k hlt
          have hmm := HR.out.mm k hlt
          obtain ⟨x, hx⟩ : ∃ x, ms[k] = x := ⟨_, rfl⟩
          rw [hx] at hmm c0 c1 c2 c3 c4
          obtain ⟨⟨m1, m1'⟩, m2', m3, m4, m5⟩ := hmm
          have m6 : -4194304 ≤ x.y ∧ x.y ≤ 4194304 := by omega
          clear m4
          have RA := Lib.hid ((Below.heap_alloc wr (.cells #[.int .i64 x.link, .int .i64 x.mass, .int .i64 x.x, .int .i64 x.y, .int .i64 x.z] 74) _ hq).trans hR)
          have HBA := Lib.hid (hB.alloc hB.size (.cells #[.int .i64 x.link, .int .i64 x.mass, .int .i64 x.x, .int .i64 x.y, .int .i64 x.z] 74))
          clear hR hB hm hx
          go_wp2_with fail
          refine (rBetween_any x.mass 1 65536 _).mono ?_
          rintro e w2 ⟨rfl, rfl⟩
          rw [show (decide (1 ≤ x.mass) && decide (x.mass ≤ 65536)) = true by simp; omega]
          go_wp2_with fail
          refine (rNear_any ⟨x.x, x.y, x.z⟩ 4194304 _ (by decide) (by decide) (by dsimp only; omega) (by dsimp only; omega) (by dsimp only; omega)).mono ?_
          rintro e w1 ⟨rfl, hb⟩
          have RR1 := Lib.hid (RobAt.below RA.out hb (by simp; omega))
          have BR1 := Lib.hid (bl_next hb HBA.out)
          clear hb r0 r1
          go_wp2_with fail
          go_roundw
          case rel => exact ⟨k + 1, by omega, by go_num, RR1.out, BR1.out⟩
          case measure => simp [intOf]; omega
        · clear hR hB
          go_wp2_with fail
          go_ret
          exact ⟨rfl, BR.out⟩
end Go.Proofs.YtpaiapcnoifpmaaDoor
