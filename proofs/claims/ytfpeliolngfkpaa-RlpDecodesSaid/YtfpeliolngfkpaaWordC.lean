/- What the functions Compare and Len of package word do, for every word: Compare returns -1, 0 or 1 as the first is less, the same or more; Len returns how many bits the word has; all older memory is as it was. -/
import Derived.Test.YtfpeliolngfkpaaArr
import Derived.Test.YtfpeliolngfkpaaShelf
import Derived.Lib.Hide
import Derived.LoopN
namespace Go.Proofs.Ytfpeliolngfkpaa
open Go.RowKit SmWord
set_option maxRecDepth 100000

theorem below_N {B : Nat} {a w : World} (h : Below B a w) (n : Nat) : Below B a (w.drewN n) := ⟨h.os, h.tape, h.output, h.size, h.block⟩

def cmpI (x y : Int) : Int := if x < y then -1 else if y < x then 1 else 0
theorem Try.guardW : Try.prog.eqGuardType Try.prog.depth 39 = false := by kernel_rfl
/-- -1, 0, 1. -/
def cmpN (m n : Nat) : Int := if m < n then -1 else if n < m then 1 else 0
theorem cmpI_nat (m n : Nat) : cmpI (m : Int) (n : Int) = cmpN m n := by
  unfold cmpI cmpN
  simp only [Int.ofNat_lt]
theorem cmp_top {a0 a1 a2 a3 b0 b1 b2 b3 : Nat} (A0 : a0 < B) (A1 : a1 < B) (A2 : a2 < B) (C0 : b0 < B) (C1 : b1 < B) (C2 : b2 < B) :
    (a3 ≠ b3 → cmpN (num a0 a1 a2 a3) (num b0 b1 b2 b3) = cmpN a3 b3) ∧ (a3 = b3 → a2 ≠ b2 → cmpN (num a0 a1 a2 a3) (num b0 b1 b2 b3) = cmpN a2 b2) ∧
    (a3 = b3 → a2 = b2 → a1 ≠ b1 → cmpN (num a0 a1 a2 a3) (num b0 b1 b2 b3) = cmpN a1 b1) ∧ (a3 = b3 → a2 = b2 → a1 = b1 → cmpN (num a0 a1 a2 a3) (num b0 b1 b2 b3) = cmpN a0 b0) := by
  unfold cmpN num
  simp only [B] at *
  refine ⟨fun h => ?_, fun h h' => ?_, fun h h' h'' => ?_, fun h h' h'' => ?_⟩
  all_goals (repeat' split) <;> omega
theorem len64_nat (x : Nat) (w : World) (h : x < B) : Calls Try.prog 42 #[.int .u64 (x : Int)] w fun e w' => e = .returned (.int .i64 ((Lib.bitLen x : Nat) : Int)) ∧ w = w' :=
  (Try.bits_Len64 x w (by omega) (by simp only [B] at h; omega)).mono fun e w' ⟨h1, h2⟩ => ⟨by rw [h1, Int.toNat_natCast], h2.symm⟩

set_option maxHeartbeats 1000000 in
theorem len_walk3 (a0 a1 a2 a3 v : Int) (w : World) (h3 : (a3 != 0) = true) (hv0 : 0 ≤ v) (hv1 : v ≤ 64)
    (H : Hid (∀ w : World, Calls Try.prog 42 #[.int .u64 a3] w fun e w' => e = .returned (.int .i64 v) ∧ w = w')) :
    Calls Try.prog 39 #[.agg #[.int .u64 a0, .int .u64 a1, .int .u64 a2, .int .u64 a3]] w fun e w' => e = .returned (.int .i64 (192 + v)) ∧ Below w.heap.size w w' := by
  go_enter Try.func39, Try.ntmps39
  go_wp2
  refine wp_loop_rounds 5 ?_
  rw [rounds_succ]
  go_wp2_with (go_at_call 42; refine (H.out _).mono ?_; rintro e w' ⟨rfl, rfl⟩)
  go_ret
  refine ⟨rfl, ?_⟩
  repeat (first | exact Below.refl _ _ | refine Below.drew ?_ | refine below_N ?_ _ | refine Below.alloc ?_ (by simp; try omega) _ | refine Below.setCell ?_ (by simp; try omega) _)

set_option maxHeartbeats 1000000 in
theorem len_walk2 (a0 a1 a2 a3 v : Int) (w : World) (h3 : (a3 != 0) = false) (h2 : (a2 != 0) = true) (hv0 : 0 ≤ v) (hv1 : v ≤ 64)
    (H : Hid (∀ w : World, Calls Try.prog 42 #[.int .u64 a2] w fun e w' => e = .returned (.int .i64 v) ∧ w = w')) :
    Calls Try.prog 39 #[.agg #[.int .u64 a0, .int .u64 a1, .int .u64 a2, .int .u64 a3]] w fun e w' => e = .returned (.int .i64 (128 + v)) ∧ Below w.heap.size w w' := by
  go_enter Try.func39, Try.ntmps39
  go_wp2
  refine wp_loop_rounds 5 ?_
  rw [rounds_succ]
  go_wp2
  rw [rounds_succ]
  go_wp2_with (go_at_call 42; refine (H.out _).mono ?_; rintro e w' ⟨rfl, rfl⟩)
  go_ret
  refine ⟨rfl, ?_⟩
  repeat (first | exact Below.refl _ _ | refine Below.drew ?_ | refine below_N ?_ _ | refine Below.alloc ?_ (by simp; try omega) _ | refine Below.setCell ?_ (by simp; try omega) _)

set_option maxHeartbeats 1000000 in
theorem len_walk1 (a0 a1 a2 a3 v : Int) (w : World) (h3 : (a3 != 0) = false) (h2 : (a2 != 0) = false) (h1 : (a1 != 0) = true) (hv0 : 0 ≤ v) (hv1 : v ≤ 64)
    (H : Hid (∀ w : World, Calls Try.prog 42 #[.int .u64 a1] w fun e w' => e = .returned (.int .i64 v) ∧ w = w')) :
    Calls Try.prog 39 #[.agg #[.int .u64 a0, .int .u64 a1, .int .u64 a2, .int .u64 a3]] w fun e w' => e = .returned (.int .i64 (64 + v)) ∧ Below w.heap.size w w' := by
  go_enter Try.func39, Try.ntmps39
  go_wp2
  refine wp_loop_rounds 5 ?_
  rw [rounds_succ]
  go_wp2
  rw [rounds_succ]
  go_wp2
  rw [rounds_succ]
  go_wp2_with (go_at_call 42; refine (H.out _).mono ?_; rintro e w' ⟨rfl, rfl⟩)
  go_ret
  refine ⟨rfl, ?_⟩
  repeat (first | exact Below.refl _ _ | refine Below.drew ?_ | refine below_N ?_ _ | refine Below.alloc ?_ (by simp; try omega) _ | refine Below.setCell ?_ (by simp; try omega) _)

set_option maxHeartbeats 1000000 in
theorem len_walk0 (a0 a1 a2 a3 v : Int) (w : World) (h3 : (a3 != 0) = false) (h2 : (a2 != 0) = false) (h1 : (a1 != 0) = false) (h0 : (a0 != 0) = true) (hv0 : 0 ≤ v) (hv1 : v ≤ 64)
    (H : Hid (∀ w : World, Calls Try.prog 42 #[.int .u64 a0] w fun e w' => e = .returned (.int .i64 v) ∧ w = w')) :
    Calls Try.prog 39 #[.agg #[.int .u64 a0, .int .u64 a1, .int .u64 a2, .int .u64 a3]] w fun e w' => e = .returned (.int .i64 (0 + v)) ∧ Below w.heap.size w w' := by
  go_enter Try.func39, Try.ntmps39
  go_wp2
  refine wp_loop_rounds 5 ?_
  rw [rounds_succ]
  go_wp2
  rw [rounds_succ]
  go_wp2
  rw [rounds_succ]
  go_wp2
  rw [rounds_succ]
  go_wp2_with (go_at_call 42; refine (H.out _).mono ?_; rintro e w' ⟨rfl, rfl⟩)
  go_ret
  refine ⟨by simp, ?_⟩
  repeat (first | exact Below.refl _ _ | refine Below.drew ?_ | refine below_N ?_ _ | refine Below.alloc ?_ (by simp; try omega) _ | refine Below.setCell ?_ (by simp; try omega) _)

set_option maxHeartbeats 1000000 in
theorem len_walkZ (a0 a1 a2 a3 : Int) (w : World) (h3 : (a3 != 0) = false) (h2 : (a2 != 0) = false) (h1 : (a1 != 0) = false) (h0 : (a0 != 0) = false) :
    Calls Try.prog 39 #[.agg #[.int .u64 a0, .int .u64 a1, .int .u64 a2, .int .u64 a3]] w fun e w' => e = .returned (.int .i64 0) ∧ Below w.heap.size w w' := by
  go_enter Try.func39, Try.ntmps39
  go_wp2
  refine wp_loop_rounds 5 ?_
  rw [rounds_succ]
  go_wp2
  rw [rounds_succ]
  go_wp2
  rw [rounds_succ]
  go_wp2
  rw [rounds_succ]
  go_wp2
  rw [rounds_succ]
  go_wp2
  go_ret
  refine ⟨rfl, ?_⟩
  repeat (first | exact Below.refl _ _ | refine Below.drew ?_ | refine below_N ?_ _ | refine Below.alloc ?_ (by simp; try omega) _ | refine Below.setCell ?_ (by simp; try omega) _)
end Go.Proofs.Ytfpeliolngfkpaa
