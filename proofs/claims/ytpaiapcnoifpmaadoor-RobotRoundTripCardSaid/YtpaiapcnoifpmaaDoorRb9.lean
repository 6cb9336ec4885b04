/- Proved: the reference's kindOf and numbers return what kindK and numL compute. Conditions: as each theorem states. · Proved: plain facts on reading robots: the ranges of what is read, the joint of a statement, and the robot of a list of statements. Conditions: as each theorem states. -/
import Derived.Test.YtpaiapcnoifpmaaDoorRb7
import Derived.Test.YtpaiapcnoifpmaaDoorTk7
namespace Go.Proofs.YtpaiapcnoifpmaaDoor
open Go.RowKit

/-- The kind that a word names, or -1. -/
def kindK (b : ByteArray) : Int := match (List.range 7).find? (fun (k : Nat) => decide (kindB (k : Int) = b)) with
  | some k => k
  | none => -1
theorem kind_at {b : ByteArray} {k : Nat} (hk : k < 7) (h : ∀ i : Nat, i < k → kindB i ≠ b) (he : kindB k = b) : kindK b = k := by
  unfold kindK
  have : (List.range 7).find? (fun (k : Nat) => decide (kindB (k : Int) = b)) = some k := by
    rw [List.find?_eq_some_iff_getElem]
    exact ⟨by simpa using he, k, by simpa using hk, by simp, fun j hj => by simpa using h j hj⟩
  rw [this]
theorem kind_none {b : ByteArray} (h : ∀ i : Nat, i < 7 → kindB i ≠ b) : kindK b = -1 := by
  unfold kindK
  have : (List.range 7).find? (fun (k : Nat) => decide (kindB (k : Int) = b)) = none := by
    rw [List.find?_eq_none]
    intro i hi
    simpa using h i (by simpa using hi)
  rw [this]
theorem kind_range (b : ByteArray) : -1 ≤ kindK b ∧ kindK b ≤ 6 := by
  unfold kindK
  cases h : (List.range 7).find? (fun (k : Nat) => decide (kindB (k : Int) = b)) with
  | none => exact ⟨by decide, by decide⟩
  | some k =>
    have := List.mem_of_find?_eq_some h
    simp at this
    simp only
    omega
set_option linter.unusedSimpArgs false in
set_option linter.unusedVariables false in
set_option maxRecDepth 100000 in
set_option maxHeartbeats 6400000 in
theorem rKindOf_any (b : ByteArray) (w : World) : Calls Tryd.prog 84 #[ .string b ] w fun e w' => e = .returned (.int .i64 (kindK b)) ∧ w = w' := by
  obtain ⟨r, hr⟩ : ∃ r, kindK b = r := ⟨_, rfl⟩
  have HR := Lib.hid hr
  rw [hr]
  clear hr
  go_enter Tryd.func84, Tryd.ntmps84
  go_wp2_with fail
  go_loop [3] (fun i => ∃ k : Nat, k ≤ 7 ∧ i = .int .i64 k ∧ ∀ t : Nat, t < k → kindB t ≠ b) (fun i => 7 - (intOf i).toNat)
  case atStart => exact ⟨0, by omega, rfl, fun t h => absurd h (Nat.not_lt_zero _)⟩
  case round =>
    obtain ⟨k, hk, rfl, hne⟩ := hrel
    have HNE := Lib.hid hne
    clear hne
    by_cases hlt : k < 7
    · go_wp2_with fail
      refine (rKindName_any k _ (by omega) (by omega)).mono ?_
      rintro e w1 ⟨rfl, rfl⟩
      obtain ⟨nm, hnm⟩ : ∃ x, kindB k = x := ⟨_, rfl⟩
      have HNM := Lib.hid hnm
      rw [hnm]
      clear hnm
      by_cases he : nm = b
      · have hs := same_word he
        have hrk := HR.out.symm.trans (kind_at hlt HNE.out (HNM.out.trans he))
        subst hrk
        clear he
        go_wp2_with fail
        go_ret
        exact ⟨rfl, rfl⟩
      · have hs := other_word he
        have HE := Lib.hid he
        clear he
        go_wp2_with fail
        go_round
        case rel => exact ⟨k + 1, by omega, by go_num, fun t h => by rcases Nat.lt_or_ge t k with h3 | h3; exact HNE.out t h3; have e : t = k := (by omega); subst e; rw [HNM.out]; exact HE.out⟩
        case measure => simp [intOf]; omega
    · have hrk := HR.out.symm.trans (kind_none (fun t h => HNE.out t (by omega)))
      subst hrk
      go_wp2_with fail
      go_ret
      exact ⟨rfl, rfl⟩
/-- The numbers of words. -/
def numL (l : List ByteArray) : List Int := l.map fun s => outI (numS (bts s))
def numOk (l : List ByteArray) : Bool := l.all fun s => outB (numS (bts s))
def nlcells (xs : List Int) : List Value := xs.map fun x => Value.int .i64 x
theorem numL_succ {l : List ByteArray} {k : Nat} (h : k < l.length) : numL (l.take (k + 1)) = numL (l.take k) ++ [outI (numS (bts l[k]))] := by
  unfold numL
  rw [List.take_succ_eq_append_getElem h, List.map_append]
  rfl
theorem info_i64 : (Tryd.prog.info? 2).map (fun i => (i.zero, i.size, i.bytes)) = some (some (.int .i64 0), 1, 8) := by kernel_rfl
theorem under_i64s : Tryd.prog.underlying 116 = some (.slice 2) := by kernel_rfl
def NumsP (w : World) (l : List ByteArray) : Ending → World → Prop := fun e w' => ∃ v, e = .returned (.tuple #[v, .bool (numOk l)]) ∧ (numOk l = true → w'.ownsRow w.heap.size 2 1 v l.length (nlcells (numL l))) ∧ (numOk l = false → v = .slice none 0 0) ∧ Below w.heap.size w w'
set_option linter.unusedSimpArgs false in
set_option linter.unusedVariables false in
set_option maxRecDepth 100000 in
set_option maxHeartbeats 6400000 in
theorem rNumbers_any (u : Value) (l : List ByteArray) (w : World) (hu : RdT w u l) (hs : ∀ s ∈ l, s.size ≤ maxLen) :
    Calls Tryd.prog 75 #[ u ] w (NumsP w l) := by
  have HU := Lib.hid hu
  have HSZ := Lib.hid hs
  obtain ⟨A, c, rfl, hl, hk⟩ := hu
  clear hk hs
  obtain ⟨i0, hi, hz0, hz1, hz2⟩ := info_parts info_i64
  have HI := Lib.hid hi
  have HZ0 := Lib.hid hz0
  have HZ1 := Lib.hid hz1
  have HZ2 := Lib.hid hz2
  clear hi hz0 hz1 hz2
  unfold NumsP
  obtain ⟨ok, hok⟩ : ∃ b, numOk l = b := ⟨_, rfl⟩
  have HKK := Lib.hid hok
  rw [hok]
  clear hok
  go_enter Tryd.func75, Tryd.ntmps75
  go_wp2_with fail
  go_loopw [4, 5] (fun v i wr => ∃ k : Nat, k ≤ l.length ∧ i = .int .i64 k ∧ (∀ t (h : t < l.length), t < k → outB (numS (bts l[t])) = true) ∧ wr.ownsRow w.heap.size 2 1 v k (nlcells (numL (l.take k))) ∧ Below w.heap.size w wr) (fun _ i _ => l.length - (intOf i).toNat)
  case atStart => exact ⟨0, Nat.zero_le _, rfl, fun t _ h => absurd h (Nat.not_lt_zero _), World.ownsRow_nil _ _ _ _, Below.refl _ _⟩
  case round =>
    obtain ⟨k, hkl, rfl, hok, hown, hb⟩ := hrel
    obtain ⟨q5, k5, c5, rfl⟩ := own_slc hown
    have HOK := Lib.hid hok
    have HO := Lib.hid hown
    have HB := Lib.hid hb
    clear hown hok
    by_cases hlt : k < l.length
    · obtain ⟨_, _, ea, _, hk⟩ := HU.out.below hb (Nat.le_refl _)
      injection ea with ea _ ec
      subst ea ec
      obtain ⟨g, o, rfl, hg, a0⟩ := hk k hlt
      have HS := Lib.hid (numL_succ hlt)
      have hsz0 := HSZ.out l[k] (List.getElem_mem hlt)
      obtain ⟨s, hse⟩ : ∃ s, l[k] = s := ⟨_, rfl⟩
      have HSE := Lib.hid hse
      rw [hse] at a0 HS hsz0
      clear hse hk hb
      go_wp2_with fail
      refine (rNumber_any s _ hsz0).mono ?_
      rintro e w1 ⟨rfl, rfl⟩
      obtain ⟨x, hx⟩ : ∃ x, outI (numS (bts s)) = x := ⟨_, rfl⟩
      rw [hx] at HS ⊢
      clear hx
      cases hob : outB (numS (bts s)) with
      | false =>
        have hnf : numOk l = false := by
          rw [Bool.eq_false_iff]
          intro ha
          unfold numOk at ha
          rw [List.all_eq_true] at ha
          have := ha l[k] (List.getElem_mem hlt)
          rw [HSE.out, hob] at this
          cases this
        have hx := HKK.out.symm.trans hnf
        subst hx
        clear hnf hob
        go_wp2_with fail
        go_ret2
        exact ⟨_, rfl, rfl, HB.out⟩
      | true =>
        have HOB := Lib.hid hob
        have HOA := Lib.hid (HO.out.alloc (.cells #[.int .i64 x] 2))
        have hsz := HB.out.size
        clear hob
        go_wp2_with (first | (at_builtin; refine wpList_append_own _ rfl (.tmp 24) (.tmp 26) 116 rfl w.heap.size 2 i0 (.int .i64 0) 1 8 under_i64s HI.out HZ0.out HZ1.out HZ2.out rfl (by decide) _ k (nlcells (numL (l.take k))) rfl HOA.out ⟨wr.heap.size, 0, none⟩ 1 1 [.int .i64 x] rfl rfl (news_int wr _ _) (fun u hu => by simp at hu; subst hu; rfl) (by unfold maxLen; omega) (by omega) (by simp; omega) ?_))
        intro v' w2 hown' hgrow _
        have hPU : w2.ownsRow w.heap.size 2 1 v' (k + 1) (nlcells (numL (l.take (k + 1)))) := by
          rw [HS.out]
          unfold nlcells
          rw [List.map_append]
          exact hown'
        have hBN : Below w.heap.size w w2 := (HB.out.alloc HB.out.size _).grown hgrow (by simp; omega) (fun j hj => by have := (HO.out.lt j hj).1; omega)
        have HPU := Lib.hid hPU
        have HBN := Lib.hid hBN
        clear hPU hBN hown' hgrow HS
        go_wp2_with fail
        go_roundw
        case rel => exact ⟨k + 1, by omega, by go_num, fun t h ht => by rcases Nat.lt_or_ge t k with h3 | h3; exact HOK.out t h h3; have e : t = k := (by omega); subst e; rw [HSE.out]; exact HOB.out, HPU.out, HBN.out⟩
        case measure => simp [intOf]; omega
    · have hke : k = l.length := by omega
      subst hke
      have hnt : numOk l = true := by
        unfold numOk
        rw [List.all_eq_true]
        intro s hs
        obtain ⟨t, ht, rfl⟩ := List.getElem_of_mem hs
        exact HOK.out t ht ht
      have HO2 := HO.out
      rw [List.take_length] at HO2
      have HR := Lib.hid HO2
      have hx := HKK.out.symm.trans hnt
      subst hx
      clear hnt HO2
      go_wp2_with fail
      go_ret2
      exact ⟨_, rfl, HR.out, HB.out⟩
end Go.Proofs.YtpaiapcnoifpmaaDoor
namespace Go.Proofs.YtpaiapcnoifpmaaDoor
open Go.RowKit

theorem digS_fit (l : List Nat) : ∀ n v, (digS l n v).1 ≤ 15 → v < 10 ^ n → (digS l n v).2 < 10 ^ (digS l n v).1 := by
  induction l with
  | nil => intro n v _ h; exact h
  | cons c l ih =>
    intro n v h1 h2
    rw [digS] at h1 ⊢
    split at h1
    · rename_i hc
      rw [if_pos hc]
      have hle := (digS_le l (n + 1) (if n < 15 then 10 * v + (c - 48) else v)).1
      refine ih _ _ h1 ?_
      rw [if_pos (by omega), Nat.pow_succ]
      have : c ≤ 57 := by simp [isd] at hc; omega
      omega
    · rename_i hc
      rw [if_neg hc]
      exact h2
theorem int_in (l : List Nat) : -1000000000000000 < outI (intS l) ∧ outI (intS l) < 1000000000000000 := by
  unfold intS intT
  split
  · exact ⟨by decide, by decide⟩
  · rename_i h
    have h15 : (digS (sgnT l) 0 0).1 ≤ 15 := by omega
    have h2 := digS_fit (sgnT l) 0 0 h15 (by decide)
    have h3 : 10 ^ (digS (sgnT l) 0 0).1 ≤ 10 ^ 15 := Nat.pow_le_pow_right (by decide) h15
    have h4 : (10 : Nat) ^ 15 = 1000000000000000 := by decide
    simp only [outI, Option.getD_some]
    split <;> omega
theorem fin_in (neg : Bool) (v : Nat) : -2147483648 ≤ outI (finN neg v) ∧ outI (finN neg v) ≤ 2147483648 := by
  unfold finN
  split
  · exact ⟨by decide, by decide⟩
  · simp only [outI, Option.getD_some]
    split <;> omega
theorem num_in (l : List Nat) : -2147483648 ≤ outI (numS l) ∧ outI (numS l) ≤ 2147483648 := by
  unfold numS numT
  split
  · exact ⟨by decide, by decide⟩
  · unfold fracN
    split
    · exact fin_in _ _
    · split
      · exact ⟨by decide, by decide⟩
      · exact fin_in _ _
/-- The error of a joint's words, behind what was read before. -/
def worldB : ByteArray := ⟨#[119, 111, 114, 108, 100]⟩
def jerrK (js : List JointD) (a : List ByteArray) : Int :=
  if nameS (bts (a.getD 0 ⟨#[]⟩)) = false ∨ 0 ≤ findK js (a.getD 0 ⟨#[]⟩) then 802
  else if kindK (a.getD 1 ⟨#[]⟩) < 0 then 803
  else if a.getD 2 ⟨#[]⟩ ≠ worldB ∧ findK js (a.getD 2 ⟨#[]⟩) < 0 then 810
  else if numOk ((a.drop 3).take 5) = false ∨ outB (intS (bts (a.getD 8 ⟨#[]⟩))) = false then 809
  else 0
/-- The joint of a joint's words. -/
def readJ (js : List JointD) (a : List ByteArray) : JointD :=
  ⟨a.getD 0 ⟨#[]⟩, kindK (a.getD 1 ⟨#[]⟩), if a.getD 2 ⟨#[]⟩ = worldB then -1 else findK js (a.getD 2 ⟨#[]⟩),
    outI (numS (bts (a.getD 3 ⟨#[]⟩))), outI (numS (bts (a.getD 4 ⟨#[]⟩))), outI (numS (bts (a.getD 5 ⟨#[]⟩))), outI (numS (bts (a.getD 6 ⟨#[]⟩))), outI (numS (bts (a.getD 7 ⟨#[]⟩))),
    outI (intS (bts (a.getD 8 ⟨#[]⟩))), 65536, 65536, 65536⟩
theorem readJ_in {js : List JointD} (a : List ByteArray) (hl : js.length ≤ 8796093022208) : InJ (readJ js a) := by
  have hk := kind_range (a.getD 1 ⟨#[]⟩)
  have hf := find_range js (a.getD 2 ⟨#[]⟩)
  have n3 := num_in (bts (a.getD 3 ⟨#[]⟩))
  have n4 := num_in (bts (a.getD 4 ⟨#[]⟩))
  have n5 := num_in (bts (a.getD 5 ⟨#[]⟩))
  have n6 := num_in (bts (a.getD 6 ⟨#[]⟩))
  have n7 := num_in (bts (a.getD 7 ⟨#[]⟩))
  have i8 := int_in (bts (a.getD 8 ⟨#[]⟩))
  refine ⟨?_, ?_, ?_, ?_, ?_, ?_, ?_, ?_, ?_, ?_, ?_⟩ <;> unfold I64 readJ <;> simp only
  · omega
  · split
    · exact ⟨by decide, by decide⟩
    · omega
  all_goals omega
/-- A limit's statement: the joint's speed, acceleration and torque are set. -/
def setL (js : List JointD) (k : Nat) (a b c : Int) : List JointD := js.set k { js.getD k zeroJ with speed := a, accel := b, torque := c }
inductive RdR where
  | ok (js : List JointD) (ms : List MassD)
  | err (e : Int)
/-- One statement, behind a robot so far. -/
def stepR (js : List JointD) (ms : List MassD) (s : St) : RdR :=
  if 2 < wordK (bts s.word) then .ok js ms
  else if argsK (wordK (bts s.word)) s.args.length = false then .err 702
  else if wordK (bts s.word) = 0 then (if jerrK js s.args = 0 then .ok (js ++ [readJ js s.args]) ms else .err (jerrK js s.args))
  else if findK js (s.args.getD 0 ⟨#[]⟩) < 0 then .err 810
  else if wordK (bts s.word) = 1 then
    (if outB (intS (bts (s.args.getD 1 ⟨#[]⟩))) = false ∨ outB (intS (bts (s.args.getD 2 ⟨#[]⟩))) = false ∨ outB (intS (bts (s.args.getD 3 ⟨#[]⟩))) = false then .err 809
      else .ok (setL js (findK js (s.args.getD 0 ⟨#[]⟩)).toNat (outI (intS (bts (s.args.getD 1 ⟨#[]⟩)))) (outI (intS (bts (s.args.getD 2 ⟨#[]⟩)))) (outI (intS (bts (s.args.getD 3 ⟨#[]⟩))))) ms)
  else if numOk (s.args.drop 1) = false then .err 809
  else .ok js (ms ++ [⟨findK js (s.args.getD 0 ⟨#[]⟩), outI (numS (bts (s.args.getD 1 ⟨#[]⟩))), outI (numS (bts (s.args.getD 2 ⟨#[]⟩))), outI (numS (bts (s.args.getD 3 ⟨#[]⟩))), outI (numS (bts (s.args.getD 4 ⟨#[]⟩)))⟩])
/-- What Read returns: a robot, an error, and its line. -/
def readR : List JointD → List MassD → List St → (List JointD × List MassD) × Int × Int
  | js, ms, [] => if checkR js ms = 0 then ((js, ms), 0, 0) else (([], []), checkR js ms, 0)
  | js, ms, s :: l => match stepR js ms s with
    | .ok js' ms' => readR js' ms' l
    | .err e => (([], []), e, s.line)
theorem step_len {js js' : List JointD} {ms ms' : List MassD} {s : St} (h : stepR js ms s = .ok js' ms') : js'.length ≤ js.length + 1 ∧ ms'.length ≤ ms.length + 1 := by
  unfold stepR at h
  repeat' split at h
  all_goals first
    | (injection h with h1 h2; subst h1 h2; simp [setL])
    | cases h
theorem step_in {js js' : List JointD} {ms ms' : List MassD} {s : St} (h : stepR js ms s = .ok js' ms') (hl : js.length ≤ 8796093022208) (hj : ∀ k (h : k < js.length), InJ js[k]) (hm : ∀ k (h : k < ms.length), InM ms[k]) :
    (∀ k (h : k < js'.length), InJ js'[k]) ∧ (∀ k (h : k < ms'.length), InM ms'[k]) := by
  have hf := find_range js (s.args.getD 0 ⟨#[]⟩)
  unfold stepR at h
  repeat' split at h
  all_goals try cases h
  · exact ⟨hj, hm⟩
  · refine ⟨fun k hk => ?_, hm⟩
    rw [List.getElem_append]
    split
    · exact hj _ _
    · rw [List.getElem_singleton]; exact readJ_in _ hl
  · refine ⟨fun k hk => ?_, hm⟩
    have i1 := int_in (bts (s.args.getD 1 ⟨#[]⟩))
    have i2 := int_in (bts (s.args.getD 2 ⟨#[]⟩))
    have i3 := int_in (bts (s.args.getD 3 ⟨#[]⟩))
    unfold setL at hk ⊢
    rw [List.length_set] at hk
    rw [List.getElem_set]
    split
    · rename_i he
      have hgd : js.getD (findK js (s.args.getD 0 ⟨#[]⟩)).toNat zeroJ = js[k] := by rw [he, List.getD_eq_getElem?_getD, List.getElem?_eq_getElem hk]; rfl
      have h0 := hj k hk
      rw [hgd]
      exact ⟨h0.kind, h0.parent, h0.x, h0.y, h0.z, h0.lo, h0.hi, h0.weight, by unfold I64; simp only; omega, by unfold I64; simp only; omega, by unfold I64; simp only; omega⟩
    · exact hj k hk
  · refine ⟨hj, fun k hk => ?_⟩
    rw [List.getElem_append]
    split
    · exact hm _ _
    · rw [List.getElem_singleton]
      have n1 := num_in (bts (s.args.getD 1 ⟨#[]⟩))
      have n2 := num_in (bts (s.args.getD 2 ⟨#[]⟩))
      have n3 := num_in (bts (s.args.getD 3 ⟨#[]⟩))
      have n4 := num_in (bts (s.args.getD 4 ⟨#[]⟩))
      exact ⟨by unfold I64; simp only; omega, by unfold I64; simp only; omega, by unfold I64; simp only; omega, by unfold I64; simp only; omega, by unfold I64; simp only; omega⟩
end Go.Proofs.YtpaiapcnoifpmaaDoor
