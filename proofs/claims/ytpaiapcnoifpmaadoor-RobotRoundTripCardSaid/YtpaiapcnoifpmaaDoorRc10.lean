/- Proved: the developers' add and Read return what stepR and readR say. Conditions: the program's table of kinds is laid; the statements read as a list of at most 10^12, whose texts are at most maxLen bytes long. · Proved: the developers' Read returns what readR says. Conditions: the program's table of kinds is laid; the statements read as a list of at most 10^12, whose texts are at most maxLen bytes long. -/
import Derived.Test.YtpaiapcnoifpmaaDoorRc8
import Derived.Test.YtpaiapcnoifpmaaDoorRb12
import Derived.Test.YtpaiapcnoifpmaaDoorSyE
namespace Go.Proofs.YtpaiapcnoifpmaaDoor
open Go.RowKit

theorem KeptR.trans {M : Nat} {vj vm : Value} {W V U : World} (h : KeptR M vj vm W V) (k : KeptR M vj vm V U) : KeptR M vj vm W U :=
  ⟨k.os.trans h.os, k.tape.trans h.tape, k.output.trans h.output, Nat.le_trans h.size k.size, fun q hq a b c d => (k.block q (Nat.lt_of_lt_of_le hq h.size) a b c d).trans (h.block q hq a b c d)⟩
/-- What adding a statement does. -/
def AP (M : Nat) (js : List JointD) (ms : List MassD) (vj vm : Value) (s : St) (w : World) : Ending → World → Prop := fun e V => ∃ er : Int,
  e = .returned (.int .i64 er) ∧ KeptR M vj vm w V ∧ (er = 0 → ∃ js' ms' vj' vm', stepR js ms s = .ok js' ms' ∧ RS M V (nameF js') js' ms' vj' vm') ∧ (er ≠ 0 → stepR js ms s = .err er)
set_option linter.unusedSimpArgs false in
set_option linter.unusedVariables false in
set_option maxRecDepth 100000 in
set_option maxHeartbeats 12800000 in
theorem sAdd_any (M : Nat) (js : List JointD) (ms : List MassD) (vj vm : Value) (ln : Int) (wd : ByteArray) (va : Value) (ar : List ByteArray) (w : World) (hT : KindT w) (hr : RS M w (nameF js) js ms vj vm) (hl : js.length ≤ 1000000000000) (hlm : ms.length ≤ 1000000000000)
    (hu : RdT w va ar) (hs : ∀ s ∈ ar, s.size ≤ maxLen) :
    Calls Tryd.prog 46 #[ .pointer (some ⟨M + 1, 0, none⟩), .agg #[.int .i64 ln, .string wd, va] ] w (AP M js ms vj vm ⟨ln, wd, ar⟩ w) := by
  have HS := Lib.hid hs
  obtain ⟨qv, cv, rfl, hcv, _⟩ := hu
  have hu : RdT w (.slice qv ar.length cv) ar := ⟨qv, cv, rfl, hcv, by assumption⟩
  have hb0 := (Below.refl w.heap.size w).alloc (Nat.le_refl _) (.cells #[.int .i64 ln, .string wd, .slice qv ar.length cv] 43)
  have S0 := Lib.hid ((RW.start hr hu hT).next hb0)
  have T0 := Lib.hid (show StAt (w.alloc (.cells #[.int .i64 ln, .string wd, .slice qv ar.length cv] 43)) w.heap.size ln wd (.slice qv ar.length cv) from heap_alloc_new _ _)
  have hMw := hr.lt
  clear hr hu hs hT hb0
  obtain ⟨n, hn⟩ : ∃ n, ar.length = n := ⟨_, rfl⟩
  rw [hn] at S0 T0 hcv ⊢
  have HN := Lib.hid hn
  clear hn
  unfold AP
  rcases word_cases wd with ⟨hk, h0, h1, h2, h3, h4⟩ | ⟨hk, h0, h1, h2, h3, h4⟩ | ⟨hk, h0, h1, h2, h3, h4⟩ | ⟨hk, h0, h1, h2, h3, h4⟩ | ⟨hk, h0, h1, h2, h3, h4⟩ | ⟨hk, h0, h1, h2, h3, h4⟩
  · have HK := Lib.hid hk
    clear hk
    go_enter Tryd.func46, Tryd.ntmps46
    go_wp2_with fail
    refine (sArguments_any wd n _ (by omega) (by omega)).mono ?_
    rintro e w1 ⟨rfl, hb⟩
    have S1 := Lib.hid (S0.out.next hb)
    have T1 := Lib.hid (T0.out.next hb)
    have b2 := T1.out.c2
    clear hb T0 S0
    rw [HK.out]
    cases hag : argsK 0 (n : Int) with
    | false =>
      have HAG := Lib.hid hag
      clear hag
      go_wp2_with fail
      go_ret
      exact ⟨702, rfl, S1.out.kp, fun h => absurd h (by decide), fun _ => step_args (by rw [HK.out]; decide) (by rw [HK.out, HN.out]; exact HAG.out)⟩
    | true =>
      have HAG := Lib.hid hag
      have h9 : n = 9 := by simp [argsK] at hag; omega
      clear hag
      subst h9
      obtain ⟨x0, x1, x2, x3, x4, x5, x6, x7, x8, har⟩ := nine_words ar HN.out
      subst har
      obtain ⟨ga, oa, cc, hv2, hc9⟩ := S1.out.rd.addr
      obtain ⟨rfl, rfl⟩ : qv = some ⟨ga, oa, none⟩ ∧ cc = cv := by injection hv2 with a b c; exact ⟨a, c.symm⟩
      clear hv2
      have hc9 : 9 ≤ cc := hcv.1
      go_wp2_with fail
      refine (sJoint_any M js ms vj vm x0 x1 x2 x3 x4 x5 x6 x7 x8 ga oa cc _ S1.out.kt S1.out.rs hl hc9 S1.out.rd HS.out).mono ?_
      rintro e V ⟨rfl, hkp, hok⟩
      have KP := Lib.hid (S1.out.kp.trans hkp)
      have OK := Lib.hid hok
      have HST := Lib.hid (step_joint (js := js) (ms := ms) (s := ⟨ln, wd, [x0, x1, x2, x3, x4, x5, x6, x7, x8]⟩) HK.out (by rw [HK.out]; exact HAG.out))
      clear hkp hok b2
      go_wp2_with fail
      go_ret
      exact ⟨_, rfl, KP.out, fun h => by obtain ⟨v', hr⟩ := OK.out h; exact ⟨_, _, v', vm, HST.out.trans (if_pos h), hr⟩, fun h => HST.out.trans (if_neg h)⟩
  · have HK := Lib.hid hk
    clear hk
    go_enter Tryd.func46, Tryd.ntmps46
    go_wp2_with fail
    refine (sArguments_any wd n _ (by omega) (by omega)).mono ?_
    rintro e w1 ⟨rfl, hb⟩
    have S1 := Lib.hid (S0.out.next hb)
    have T1 := Lib.hid (T0.out.next hb)
    have b2 := T1.out.c2
    clear hb T0 S0
    rw [HK.out]
    cases hag : argsK 1 (n : Int) with
    | false =>
      have HAG := Lib.hid hag
      clear hag
      go_wp2_with fail
      go_ret
      exact ⟨702, rfl, S1.out.kp, fun h => absurd h (by decide), fun _ => step_args (by rw [HK.out]; decide) (by rw [HK.out, HN.out]; exact HAG.out)⟩
    | true =>
      have HAG := Lib.hid hag
      have h9 : n = 4 := by simp [argsK] at hag; omega
      clear hag
      subst h9
      obtain ⟨x0, x1, x2, x3, har⟩ := four_words ar HN.out
      subst har
      obtain ⟨ga, oa, cc, hv2, hc9⟩ := S1.out.rd.addr
      obtain ⟨rfl, rfl⟩ : qv = some ⟨ga, oa, none⟩ ∧ cc = cv := by injection hv2 with a b c; exact ⟨a, c.symm⟩
      clear hv2
      have hc9 : 4 ≤ cc := hcv.1
      go_wp2_with fail
      refine (sLimit_any M js ms vj vm x0 x1 x2 x3 ga oa cc _ S1.out.kt S1.out.rs hl hlm hc9 S1.out.rd HS.out).mono ?_
      rintro e V ⟨rfl, hkp, hok⟩
      have KP := Lib.hid (S1.out.kp.trans hkp)
      have OK := Lib.hid hok
      have HST := Lib.hid (show stepR js ms ⟨ln, wd, [x0, x1, x2, x3]⟩ = if limE js x0 x1 x2 x3 = 0 then .ok (limJ js x0 x1 x2 x3) ms else .err (limE js x0 x1 x2 x3) by
        unfold limE
        by_cases hf : findK js x0 < 0
        · rw [if_pos hf, if_neg (by decide)]
          exact step_unknown (.inl HK.out) (by rw [HK.out]; exact HAG.out) hf
        · rw [if_neg hf, step_limit HK.out (by rw [HK.out]; exact HAG.out) hf]
          show (if outB (intS (bts x1)) = false ∨ outB (intS (bts x2)) = false ∨ outB (intS (bts x3)) = false then RdR.err 809 else _) = _
          by_cases ho : outB (intS (bts x1)) = false ∨ outB (intS (bts x2)) = false ∨ outB (intS (bts x3)) = false
          · rw [if_pos ho, if_pos ho, if_neg (by decide)]
          · rw [if_neg ho, if_neg ho, if_pos rfl]
            rfl)
      clear hkp hok b2
      go_wp2_with fail
      go_ret
      exact ⟨_, rfl, KP.out, fun h => by obtain ⟨v', hr⟩ := OK.out h; exact ⟨_, _, v', vm, HST.out.trans (if_pos h), hr⟩, fun h => HST.out.trans (if_neg h)⟩
  · have HK := Lib.hid hk
    clear hk
    go_enter Tryd.func46, Tryd.ntmps46
    go_wp2_with fail
    refine (sArguments_any wd n _ (by omega) (by omega)).mono ?_
    rintro e w1 ⟨rfl, hb⟩
    have S1 := Lib.hid (S0.out.next hb)
    have T1 := Lib.hid (T0.out.next hb)
    have b2 := T1.out.c2
    clear hb T0 S0
    rw [HK.out]
    cases hag : argsK 2 (n : Int) with
    | false =>
      have HAG := Lib.hid hag
      clear hag
      go_wp2_with fail
      go_ret
      exact ⟨702, rfl, S1.out.kp, fun h => absurd h (by decide), fun _ => step_args (by rw [HK.out]; decide) (by rw [HK.out, HN.out]; exact HAG.out)⟩
    | true =>
      have HAG := Lib.hid hag
      have h9 : n = 5 := by simp [argsK] at hag; omega
      clear hag
      subst h9
      obtain ⟨x0, x1, x2, x3, x4, har⟩ := five_words ar HN.out
      subst har
      obtain ⟨ga, oa, cc, hv2, hc9⟩ := S1.out.rd.addr
      obtain ⟨rfl, rfl⟩ : qv = some ⟨ga, oa, none⟩ ∧ cc = cv := by injection hv2 with a b c; exact ⟨a, c.symm⟩
      clear hv2
      have hc9 : 5 ≤ cc := hcv.1
      go_wp2_with fail
      refine (sMass_any M js ms vj vm x0 x1 x2 x3 x4 ga oa cc _ S1.out.kt S1.out.rs hl hlm hc9 S1.out.rd HS.out).mono ?_
      rintro e V ⟨rfl, hkp, hok⟩
      have KP := Lib.hid (S1.out.kp.trans hkp)
      have OK := Lib.hid hok
      have HST := Lib.hid (show stepR js ms ⟨ln, wd, [x0, x1, x2, x3, x4]⟩ = if masE js x0 x1 x2 x3 x4 = 0 then .ok js (ms ++ [masM js x0 x1 x2 x3 x4]) else .err (masE js x0 x1 x2 x3 x4) by
        unfold masE
        by_cases hf : findK js x0 < 0
        · rw [if_pos hf, if_neg (by decide)]
          exact step_unknown (.inr HK.out) (by rw [HK.out]; exact HAG.out) hf
        · rw [if_neg hf, step_mass HK.out (by rw [HK.out]; exact HAG.out) hf]
          show (if numOk [x1, x2, x3, x4] = false then RdR.err 809 else _) = _
          by_cases ho : numOk [x1, x2, x3, x4] = false
          · rw [if_pos ho, if_pos ho, if_neg (by decide)]
          · rw [if_neg ho, if_neg ho, if_pos rfl]
            rfl)
      clear hkp hok b2
      go_wp2_with fail
      go_ret
      exact ⟨_, rfl, KP.out, fun h => by obtain ⟨v', hr⟩ := OK.out h; exact ⟨_, _, vj, v', HST.out.trans (if_pos h), hr⟩, fun h => HST.out.trans (if_neg h)⟩
  all_goals
    have HST := Lib.hid (show stepR js ms ⟨ln, wd, ar⟩ = .ok js ms by unfold stepR; rw [if_pos (by show 2 < wordK (bts wd); omega)])
    clear hk
    go_enter Tryd.func46, Tryd.ntmps46
    go_wp2_with fail
    go_ret
    exact ⟨0, rfl, S0.out.kp, fun _ => ⟨_, _, _, _, HST.out, S0.out.rs⟩, fun h => absurd rfl h⟩
end Go.Proofs.YtpaiapcnoifpmaaDoor
namespace Go.Proofs.YtpaiapcnoifpmaaDoor
open Go.RowKit

/-- What is known while Read goes on. -/
structure RT (w W : World) (js : List JointD) (ms : List MassD) (vj vm : Value) : Prop where
  rs : RS (w.heap.size + 2) W (nameF js) js ms vj vm
  r0 : R0 w W
theorem RT.start {w : World} : RT w ((((w.alloc (.cells #[.slice none 0 0, .slice none 0 0] 25)).alloc (.cells #[.int .i64 0, .int .i64 0] 48)).alloc (.map #[] 0)).alloc (.cells #[.slice none 0 0, .slice none 0 0, .map (some (w.heap.size + 2))] 98)) [] [] (.slice none 0 0) (.slice none 0 0) := by
  have hb : ∀ (W : World) (o : Obj), Below W.heap.size W (W.alloc o) := fun W o => (Below.refl _ _).alloc (Nat.le_refl _) o
  have h1 := heap_alloc_new w (.cells #[.slice none 0 0, .slice none 0 0] 25)
  have h2 := heap_alloc_new (w.alloc (.cells #[.slice none 0 0, .slice none 0 0] 25)) (.cells #[.int .i64 0, .int .i64 0] 48)
  have h3 := MapAt.new ((w.alloc (.cells #[.slice none 0 0, .slice none 0 0] 25)).alloc (.cells #[.int .i64 0, .int .i64 0] 48))
  have h4 := heap_alloc_new (((w.alloc (.cells #[.slice none 0 0, .slice none 0 0] 25)).alloc (.cells #[.int .i64 0, .int .i64 0] 48)).alloc (.map #[] 0)) (.cells #[.slice none 0 0, .slice none 0 0, .map (some (w.heap.size + 2))] 98)
  have e1 : (w.alloc (.cells #[.slice none 0 0, .slice none 0 0] 25)).heap.size = w.heap.size + 1 := by simp
  have e2 : ((w.alloc (.cells #[.slice none 0 0, .slice none 0 0] 25)).alloc (.cells #[.int .i64 0, .int .i64 0] 48)).heap.size = w.heap.size + 2 := by simp
  have e3 : (((w.alloc (.cells #[.slice none 0 0, .slice none 0 0] 25)).alloc (.cells #[.int .i64 0, .int .i64 0] 48)).alloc (.map #[] 0)).heap.size = w.heap.size + 3 := by simp
  rw [e1] at h2
  rw [e2] at h3
  rw [e3] at h4
  refine ⟨⟨h4, (h3.as (g := nameF []) (fun b => rfl)).alloc _, World.ownsRow_nil _ _ _ _, World.ownsRow_nil _ _ _ _⟩, ⟨?_, ?_, ?_⟩⟩
  · exact ((hb _ _).block _ (by rw [e3]; omega)).trans (((hb _ _).block _ (by rw [e2]; omega)).trans (((hb _ _).block _ (by rw [e1]; omega)).trans h1))
  · exact ((hb _ _).block _ (by rw [e3]; omega)).trans (((hb _ _).block _ (by rw [e2]; omega)).trans h2)
  · exact bl_alloc (bl_alloc (bl_alloc (bl_alloc (Below.refl _ _) _) _) _) _
theorem R0.next {w W V : World} (h : R0 w W) {B : Nat} (hb : Below B W V) (hB : w.heap.size + 1 < B) : R0 w V :=
  ⟨(hb.block _ (by omega)).trans h.res, (hb.block _ hB).trans h.err, h.bl.trans (hb.mono (by omega))⟩
theorem RS.fin {w W : World} {f : ByteArray → Option Value} {js : List JointD} {ms : List MassD} {vj vm : Value} {n : Nat} (h : RS (w.heap.size + 2) W f js ms vj vm) (p : PJ n js ms) (hn : n ≤ 8796093022208) (u v x y : Value) :
    RobD ((((W.setCell ⟨w.heap.size, 0, none⟩ u).setCell ⟨w.heap.size, 1, none⟩ v).setCell ⟨w.heap.size + 1, 0, none⟩ x).setCell ⟨w.heap.size + 1, 1, none⟩ y) vj vm js ms := by
  have far : ∀ {e : TypeId} {size : Nat} {z : Value} {n : Nat} {xs : List Value}, W.ownsRow (w.heap.size + 2 + 2) e size z n xs → ((((W.setCell ⟨w.heap.size, 0, none⟩ u).setCell ⟨w.heap.size, 1, none⟩ v).setCell ⟨w.heap.size + 1, 0, none⟩ x).setCell ⟨w.heap.size + 1, 1, none⟩ y).ownsRow (w.heap.size + 2 + 2) e size z n xs := fun ho =>
    ownsRow_setCell_below (a := ⟨w.heap.size + 1, 1, none⟩) (ownsRow_setCell_below (a := ⟨w.heap.size + 1, 0, none⟩) (ownsRow_setCell_below (a := ⟨w.heap.size, 1, none⟩) (ownsRow_setCell_below (a := ⟨w.heap.size, 0, none⟩) ho (by show w.heap.size < _; omega) _) (by show w.heap.size < _; omega) _) (by show w.heap.size + 1 < _; omega) _) (by show w.heap.size + 1 < _; omega) _
  exact ⟨own_rdO (far h.oj), own_rdO (far h.om), Nat.le_trans p.lj hn, Nat.le_trans p.lm hn, p.ij, p.im⟩
set_option linter.unusedSimpArgs false in
set_option linter.unusedVariables false in
set_option maxRecDepth 100000 in
set_option maxHeartbeats 12800000 in
theorem sRead_any (u : Value) (l : List St) (w : World) (hT : KindT w) (hu : RdS w u l) (hs : ∀ s ∈ l, ∀ a ∈ s.args, a.size ≤ maxLen) (hn0 : l.length ≤ 1000000000000) :
    Calls Tryd.prog 18 #[ u ] w (ReadP w l) := by
  have HU := Lib.hid hu
  have HS := Lib.hid hs
  have HT := Lib.hid hT
  obtain ⟨A, c, rfl, hl, _⟩ := hu
  unfold ReadP
  obtain ⟨RES, hRES⟩ : ∃ R, readR [] [] l = R := ⟨_, rfl⟩
  have HRES := Lib.hid hRES
  rw [hRES]
  clear hs hRES hT
  have HP := Lib.hid (RT.start (w := w))
  have hmm := @run_makeMap Tryd.prog
  go_enter Tryd.func18, Tryd.ntmps18
  go_wp2_with fail
  go_loopw [13] (fun v5 wr => ∃ (k : Nat) (js : List JointD) (ms : List MassD) (vj vm : Value), k ≤ l.length ∧ v5 = .int .i64 k ∧ RT w wr js ms vj vm ∧ PJ k js ms ∧ readR js ms (l.drop k) = RES) (fun v5 _ => l.length - (intOf v5).toNat)
  case atStart => exact ⟨0, [], [], _, _, Nat.zero_le _, rfl, HP.out, ⟨Nat.le_refl _, Nat.le_refl _, fun k h => absurd h (by simp), fun k h => absurd h (by simp)⟩, by rw [List.drop_zero]; exact HRES.out⟩
  case round =>
    obtain ⟨k, js, ms, vj, vm, hkl, rfl, hR, hp, hread⟩ := hrel
    clear HP hmm
    have HR := Lib.hid hR
    have HPJ := Lib.hid hp
    have hwr := hR.rs.lt
    by_cases hlt : k < l.length
    · obtain ⟨_, _, ea, _, hat⟩ := HU.out
      injection ea with ea _ ec
      subst ea ec
      obtain ⟨g, o, va, rfl, hgw, w0, w1, w2, hraw⟩ := hat k hlt
      have hg : g < wr.heap.size := Nat.lt_of_lt_of_le hgw hR.r0.bl.size
      have a0 := (hR.r0.bl.cell (p := ⟨g, o + k * 3, none⟩) hgw).trans w0
      have a1 := (hR.r0.bl.cell (p := ⟨g, o + k * 3 + 1, none⟩) hgw).trans w1
      have a2 := (hR.r0.bl.cell (p := ⟨g, o + k * 3 + 2, none⟩) hgw).trans w2
      have hsz := HS.out l[k] (List.getElem_mem hlt)
      rw [List.drop_eq_getElem_cons hlt] at hread
      obtain ⟨s, hse⟩ : ∃ s, l[k] = s := ⟨_, rfl⟩
      rw [hse] at a0 a1 hraw hread hsz
      obtain ⟨ln, wd, ar⟩ := s
      simp only at a0 a1 hraw hsz
      have hb0 := (Below.refl wr.heap.size wr).alloc (Nat.le_refl _) (.cells #[.int .i64 ln, .string wd, va] 43)
      have HRA := Lib.hid (hraw.below (hR.r0.bl.trans (hb0.mono hR.r0.bl.size)) (Nat.le_refl _))
      have HK1 := Lib.hid (HT.out.next (hR.r0.bl.trans (hb0.mono hR.r0.bl.size)))
      have HRD := Lib.hid hread
      have HSZ := Lib.hid hsz
      have HS1 := Lib.hid (hR.rs.next hb0)
      have HR1 := Lib.hid (hR.r0.next hb0 (by omega))
      have ST := Lib.hid (show StAt (wr.alloc (.cells #[.int .i64 ln, .string wd, va] 43)) wr.heap.size ln wd va from heap_alloc_new _ _)
      obtain ⟨qv, cv, hva, _⟩ := hraw
      subst hva
      have hjl := hp.lj
      have hml := hp.lm
      clear hR hp hread w0 w1 w2 hsz hat hse hb0 HR
      go_wp2_with fail
      refine (sAdd_any (w.heap.size + 2) js ms vj vm ln wd _ ar _ HK1.out HS1.out (by omega) (by omega) HRA.out HSZ.out).mono ?_
      rintro e V ⟨er, rfl, hkp, h0, h1⟩
      have hR2 := HR1.out.next (hkp.below HS1.out) (by omega)
      have hst := hkp.row HS1.out ST.out (by decide) (by decide) (by omega)
      clear a0 a1 a2
      by_cases he : er = 0
      · obtain ⟨js2, ms2, vj2, vm2, hstep, hrs⟩ := h0 he
        subst he
        have HX := Lib.hid hstep
        have HY := Lib.hid (show RT w V js2 ms2 vj2 vm2 from ⟨hrs, hR2⟩)
        clear h0 h1 hstep hrs hkp hR2 hst
        go_wp2_with fail
        go_roundw
        case rel => exact ⟨k + 1, js2, ms2, vj2, vm2, by omega, by go_num, HY.out, HPJ.out.step (by omega) HX.out, (read_ok _ HX.out).symm.trans HRD.out⟩
        case measure => simp [intOf]; omega
      · have hrs := (read_err _ (h1 he)).symm.trans HRD.out
        obtain ⟨q, hq⟩ : ∃ q, wr.heap.size = q := ⟨_, rfl⟩
        rw [hq] at hst hwr ⊢
        have hne : ((er : Int) == 0) = false := by rw [beq_eq_false_iff_ne]; exact he
        obtain ⟨z1, z2, z3⟩ := hR2.fin (.slice none 0 0) (.slice none 0 0) er ln
        have Z1 := Lib.hid (show RobAt ((((V.setCell ⟨w.heap.size, 0, none⟩ (.slice none 0 0)).setCell ⟨w.heap.size, 1, none⟩ (.slice none 0 0)).setCell ⟨w.heap.size + 1, 0, none⟩ (.int .i64 er)).setCell ⟨w.heap.size + 1, 1, none⟩ (.int .i64 ln)).drew w.heap.size (.slice none 0 0) (.slice none 0 0) from z1)
        have Z2 := Lib.hid (show SrcErr ((((V.setCell ⟨w.heap.size, 0, none⟩ (.slice none 0 0)).setCell ⟨w.heap.size, 1, none⟩ (.slice none 0 0)).setCell ⟨w.heap.size + 1, 0, none⟩ (.int .i64 er)).setCell ⟨w.heap.size + 1, 1, none⟩ (.int .i64 ln)).drew (w.heap.size + 1) er ln from z2)
        have Z3 := Lib.hid (show Below w.heap.size w ((((V.setCell ⟨w.heap.size, 0, none⟩ (.slice none 0 0)).setCell ⟨w.heap.size, 1, none⟩ (.slice none 0 0)).setCell ⟨w.heap.size + 1, 0, none⟩ (.int .i64 er)).setCell ⟨w.heap.size + 1, 1, none⟩ (.int .i64 ln)).drew from z3.drew)
        have HST := Lib.hid hst
        have far : ∀ (W : World) (b i : Nat) (v : Value), b < q → W.cell? ⟨q, 0, none⟩ = some (.int .i64 ln) → (W.setCell ⟨b, i, none⟩ v).cell? ⟨q, 0, none⟩ = some (.int .i64 ln) := fun W b i v hb h => (World.cell?_of_block (w := W) (heap_setCell_other _ _ _ _ (show q ≠ b by omega))).trans h
        have K0 := Lib.hid (show V.drew.cell? ⟨q, 0, none⟩ = some (.int .i64 ln) from cell_of_row V _ 0 _ _ _ hst)
        have K1 := Lib.hid (show ((V.setCell ⟨w.heap.size, 0, none⟩ (.slice none 0 0)).setCell ⟨w.heap.size, 1, none⟩ (.slice none 0 0)).drew.cell? ⟨q, 0, none⟩ = some (.int .i64 ln) from far _ _ _ _ (by omega) (far _ _ _ _ (by omega) (cell_of_row V _ 0 _ _ _ hst)))
        have K2 := Lib.hid (show ((((V.setCell ⟨w.heap.size, 0, none⟩ (.slice none 0 0)).setCell ⟨w.heap.size, 1, none⟩ (.slice none 0 0)).setCell ⟨w.heap.size + 1, 0, none⟩ (.int .i64 er)).setCell ⟨w.heap.size + 1, 1, none⟩ (.int .i64 ln)).drew.cell? ⟨q, 0, none⟩ = some (.int .i64 ln) from far _ _ _ _ (by omega) (far _ _ _ _ (by omega) (far _ _ _ _ (by omega) (far _ _ _ _ (by omega) (cell_of_row V _ 0 _ _ _ hst)))))
        have e0 := hR2.res.c0
        have e1 := hR2.res.c1
        have e2 := hR2.res.free 0
        have e3 := hR2.res.free 1
        have e4 : V.cell? ⟨w.heap.size + 1, 0, none⟩ = some (.int .i64 0) := cell_of_row V _ 0 _ _ _ hR2.err
        have e5 : V.cell? ⟨w.heap.size + 1, 1, none⟩ = some (.int .i64 0) := cell_of_row V _ 1 _ _ _ hR2.err
        have e6 := frozen_of_row V _ 0 _ _ hR2.err
        have e7 := frozen_of_row V _ 1 _ _ hR2.err
        subst hrs
        clear h0 h1 he hkp hR2 hst hq z1 z2 z3 far HRES HRD ST HS1 HR1 HRA HK1
        go_wp2_with fail
        refine wp_region_noPanic ?_
        refine wp_region_held_drew (S := (fun w1 => w1.cell? ⟨q, 0, none⟩ = some (.int .i64 ln))) (by kernel_rfl) ?_ (fun hHeld => ?_)
        focus (with_reducible first | exact K0.out | exact K1.out | exact K2.out)
        refine wpAnyH_take (i := 0) (v := ?_) rfl (by kernel_rfl) (by kernel_rfl) (by kernel_rfl) (fun _ _ _ h => h) (Or.inl ⟨by rfl, ?_⟩) (by assumption) ?_; rotate_left; (focus (intro w hSw; (try dsimp only at hSw); go_simp; try with_reducible rfl)); (try simp only [Act.put, List.getElem_toArray, List.getElem_cons_succ, List.getElem_cons_zero, List.setIfInBounds_toArray, List.set_cons_zero, List.set_cons_succ])
        refine wpAnyH_take (i := 1) (v := ?_) rfl (by kernel_rfl) (by kernel_rfl) (by kernel_rfl) (fun _ _ _ h => h) (Or.inl ⟨by rfl, ?_⟩) (by assumption) ?_; rotate_left; (focus (intro w hSw; (try dsimp only at hSw); go_simp; try with_reducible rfl)); (try simp only [Act.put, List.getElem_toArray, List.getElem_cons_succ, List.getElem_cons_zero, List.setIfInBounds_toArray, List.set_cons_zero, List.set_cons_succ])
        refine wpAnyH_take (i := 2) (v := ?_) rfl (by kernel_rfl) (by kernel_rfl) (by kernel_rfl) (fun _ _ _ h => h) (Or.inl ⟨by rfl, ?_⟩) (by assumption) ?_; rotate_left; (focus (intro w hSw; (try dsimp only at hSw); go_simp; try with_reducible rfl)); (try simp only [Act.put, List.getElem_toArray, List.getElem_cons_succ, List.getElem_cons_zero, List.setIfInBounds_toArray, List.set_cons_zero, List.set_cons_succ])
        refine wpAnyH_take (i := 3) (v := ?_) rfl (by kernel_rfl) (by kernel_rfl) (by kernel_rfl) (fun _ _ _ h => h) (Or.inl ⟨by rfl, ?_⟩) (by assumption) ?_; rotate_left; (focus (intro w hSw; (try dsimp only at hSw); go_simp; try with_reducible rfl)); (try simp only [Act.put, List.getElem_toArray, List.getElem_cons_succ, List.getElem_cons_zero, List.setIfInBounds_toArray, List.set_cons_zero, List.set_cons_succ])
        refine wpAnyH_take (i := 4) (v := ?_) rfl (by kernel_rfl) (by kernel_rfl) (by kernel_rfl) (fun _ _ _ h => h) (Or.inl ⟨by rfl, ?_⟩) (by assumption) ?_; rotate_left; (focus (intro w hSw; (try dsimp only at hSw); go_simp; try with_reducible rfl)); (try simp only [Act.put, List.getElem_toArray, List.getElem_cons_succ, List.getElem_cons_zero, List.setIfInBounds_toArray, List.set_cons_zero, List.set_cons_succ])
        refine wpAnyH_ready (rs := [5]) (by kernel_rfl) (by simp) (AllReadyH.cons rfl (fun K hK => ?_) AllReadyH.nil); go_simp; refine hK.out _ _ ?_ (fun hHeld => ?_); (focus (with_reducible first | exact K0.out | exact K1.out | exact K2.out)); clear hK K; (try simp only [Act.put, List.getElem_toArray, List.getElem_cons_succ, List.getElem_cons_zero, List.setIfInBounds_toArray, List.set_cons_zero, List.set_cons_succ])
        refine wpAnyH_ready (rs := [6]) (by kernel_rfl) (by simp) (AllReadyH.cons rfl (fun K hK => ?_) AllReadyH.nil); go_simp; refine hK.out _ _ ?_ (fun hHeld => ?_); (focus (with_reducible first | exact K0.out | exact K1.out | exact K2.out)); clear hK K; (try simp only [Act.put, List.getElem_toArray, List.getElem_cons_succ, List.getElem_cons_zero, List.setIfInBounds_toArray, List.set_cons_zero, List.set_cons_succ])
        refine wpAnyH_done (by kernel_rfl) ?_ _
        refine NoPanic.normal ?_
        go_wp2_with fail
        (try simp only [Exit.inBlock, Exit.then])
        refine bodyPost_ret (v := .tuple #[.agg #[.slice none 0 0, .slice none 0 0], .agg #[.int .i64 er, .int .i64 ln]]) (read_res rfl _ _ _ _ _ _ _ _ Z1.out Z2.out rfl rfl) rfl ⟨_, _, rfl, robD_nil _, Z3.out⟩
    · have hke : k = l.length := by omega
      subst hke
      rw [List.drop_length, readR] at hread
      have HRD := Lib.hid hread
      have hl2 : l.length ≤ 8796093022208 := hl.2
      obtain ⟨qj, cj, rfl⟩ := own_sln hR.rs.oj
      obtain ⟨qm, cm, rfl⟩ := own_sln hR.rs.om
      have d0 := hR.rs.c0
      have d1 := hR.rs.c1
      clear hR hp hread
      go_wp2_with fail
      refine (sCheck_any js ms _ _ _ (HR.out.rs.robD HPJ.out hl2)).mono ?_
      rintro e U ⟨rfl, hb1⟩
      have HR2 := Lib.hid (HR.out.r0.next hb1 (by omega))
      have HS2 := Lib.hid (HR.out.rs.next hb1)
      obtain ⟨er, her⟩ : ∃ er, checkR js ms = er := ⟨_, rfl⟩
      have HER := Lib.hid her
      rw [her]
      clear hb1 d0 d1 her HR
      have d0 := HS2.out.c0
      have d1 := HS2.out.c1
      have e0 := HR2.out.res.c0
      have e1 := HR2.out.res.c1
      have e2 := HR2.out.res.free 0
      have e3 := HR2.out.res.free 1
      have e4 : U.cell? ⟨w.heap.size + 1, 0, none⟩ = some (.int .i64 0) := cell_of_row U _ 0 _ _ _ HR2.out.err
      have e5 : U.cell? ⟨w.heap.size + 1, 1, none⟩ = some (.int .i64 0) := cell_of_row U _ 1 _ _ _ HR2.out.err
      have e6 := frozen_of_row U _ 0 _ _ HR2.out.err
      have e7 := frozen_of_row U _ 1 _ _ HR2.out.err
      by_cases he : er = 0
      · subst he
        have hx := (if_pos HER.out).symm.trans HRD.out
        obtain ⟨z1, z2, z3⟩ := HR2.out.fin (.slice qj js.length cj) (.slice qm ms.length cm) 0 0
        have Z1 := Lib.hid z1
        have Z2 := Lib.hid z2
        have Z3 := Lib.hid z3
        clear z1 z2 z3
        subst hx
        clear HRES HRD
        go_wp2_with fail
        (try simp only [Exit.inBlock, Exit.then])
        refine bodyPost_ret (v := .tuple #[.agg #[(.slice qj js.length cj), (.slice qm ms.length cm)], .agg #[.int .i64 0, .int .i64 0]]) (read_res rfl _ _ _ _ _ _ _ _ Z1.out Z2.out rfl rfl) rfl ⟨_, _, rfl, HS2.out.fin HPJ.out hl2 _ _ _ _, Z3.out⟩
      · have hx := (if_neg (by rw [HER.out]; exact he)).symm.trans HRD.out
        have hne : ((er : Int) == 0) = false := by rw [beq_eq_false_iff_ne]; exact he
        clear he
        rw [HER.out] at hx
        obtain ⟨z1, z2, z3⟩ := HR2.out.fin (.slice none 0 0) (.slice none 0 0) er 0
        have Z1 := Lib.hid z1
        have Z2 := Lib.hid z2
        have Z3 := Lib.hid z3
        clear z1 z2 z3
        subst hx
        clear HRES HRD
        go_wp2_with fail
        (try simp only [Exit.inBlock, Exit.then])
        refine bodyPost_ret (v := .tuple #[.agg #[(.slice none 0 0), (.slice none 0 0)], .agg #[.int .i64 er, .int .i64 0]]) (read_res rfl _ _ _ _ _ _ _ _ Z1.out Z2.out rfl rfl) rfl ⟨_, _, rfl, robD_nil _, Z3.out⟩
end Go.Proofs.YtpaiapcnoifpmaaDoor
