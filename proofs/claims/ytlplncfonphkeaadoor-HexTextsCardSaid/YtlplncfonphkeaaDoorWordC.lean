/- What the functions Compare and Len of package word do, for every word: Compare returns -1, 0 or 1 as the first is less, the same or more; Len returns how many bits the word has; all older memory is as it was. -/
import Derived.Test.YtlplncfonphkeaaDoorArr
import Derived.Test.YtlplncfonphkeaaDoorShelf
import Derived.Lib.Hide
import Derived.LoopN
namespace Go.Proofs.YtlplncfonphkeaaDoor
open Go.RowKit SmWord
set_option maxRecDepth 100000

theorem below_N {B : Nat} {a w : World} (h : Below B a w) (n : Nat) : Below B a (w.drewN n) := ⟨h.os, h.tape, h.output, h.size, h.block⟩

def cmpI (x y : Int) : Int := if x < y then -1 else if y < x then 1 else 0
theorem Tryd.guardW : Tryd.prog.eqGuardType Tryd.prog.depth 25 = false := by kernel_rfl
/-- -1, 0, 1. -/
def cmpN (m n : Nat) : Int := if m < n then -1 else if n < m then 1 else 0
theorem cmpI_nat (m n : Nat) : cmpI (m : Int) (n : Int) = cmpN m n := by
  unfold cmpI cmpN
  simp only [Int.ofNat_lt]
theorem cmp_top {a0 a1 a2 a3 b0 b1 b2 b3 : Nat} (A0 : a0 < B) (A1 : a1 < B) (A2 : a2 < B) (C0 : b0 < B) (C1 : b1 < B) (C2 : b2 < B) :
    (a3 ≠ b3 → cmpN (num a0 a1 a2 a3) (num b0 b1 b2 b3) = cmpN a3 b3) ∧ (a3 = b3 → a2 ≠ b2 → cmpN (num a0 a1 a2 a3) (num b0 b1 b2 b3) = cmpN a2 b2) ∧
    (a3 = b3 → a2 = b2 → a1 ≠ b1 → cmpN (num a0 a1 a2 a3) (num b0 b1 b2 b3) = cmpN a1 b1) ∧ (a3 = b3 → a2 = b2 → a1 = b1 → cmpN (num a0 a1 a2 a3) (num b0 b1 b2 b3) = cmpN a0 b0) := by
  unfold cmpN num
  simp only [B] at *
  refine ⟨fun h => ?_, fun h h' => ?_, fun h h' h'' => ?_, fun h h' h'' => ?_⟩
  all_goals (repeat' split) <;> omega
end Go.Proofs.YtlplncfonphkeaaDoor
