/- What the functions Compare and Len of package word do, for every word: Compare returns -1, 0 or 1 as the first is less, the same or more; Len returns how many bits the word has; all older memory is as it was. -/
import Derived.Test.YtlobchkbkdjccaaArr
import Derived.Test.YtlobchkbkdjccaaShelf
import Derived.Lib.Hide
import Derived.LoopN
namespace Go.Proofs.Ytlobchkbkdjccaa
open Go.RowKit SmWord
set_option maxRecDepth 100000

theorem below_N {B : Nat} {a w : World} (h : Below B a w) (n : Nat) : Below B a (w.drewN n) := ⟨h.os, h.tape, h.output, h.size, h.block⟩

set_option maxHeartbeats 1000000 in
theorem isNaN_walk (x : Int) (w : World) : Calls Try.prog 56 #[.int .u64 x] w fun e w' => e = .returned (.bool false) ∧ w = w' := by
  have h : (x != x) = false := by simp
  go_enter Try.func56, Try.ntmps56
  go_wp2
  go_ret
  exact ⟨rfl, rfl⟩
def cmpI (x y : Int) : Int := if x < y then -1 else if y < x then 1 else 0
set_option maxHeartbeats 1000000 in
theorem cmp64_walk (x y : Int) (w : World) : Calls Try.prog 51 #[.int .u64 x, .int .u64 y] w fun e w' => e = .returned (.int .i64 (cmpI x y)) ∧ w = w' := by
  unfold cmpI
  by_cases h1 : x < y
  · rw [if_pos h1]
    go_enter Try.func51, Try.ntmps51
    go_wp2_with (go_at_call 56; refine (isNaN_walk _ _).mono ?_; rintro e w' ⟨rfl, rfl⟩)
    go_ret
    exact ⟨rfl, rfl⟩
  · rw [if_neg h1]
    by_cases h2 : y < x
    · rw [if_pos h2]
      go_enter Try.func51, Try.ntmps51
      go_wp2_with (go_at_call 56; refine (isNaN_walk _ _).mono ?_; rintro e w' ⟨rfl, rfl⟩)
      go_ret
      exact ⟨rfl, rfl⟩
    · rw [if_neg h2]
      go_enter Try.func51, Try.ntmps51
      go_wp2_with (go_at_call 56; refine (isNaN_walk _ _).mono ?_; rintro e w' ⟨rfl, rfl⟩)
      go_ret
      exact ⟨rfl, rfl⟩

set_option maxHeartbeats 1000000 in
theorem cmp_walkE (a0 a1 a2 a3 b0 b1 b2 b3 : Int) (w : World) (hg : Try.prog.eqGuardType Try.prog.depth 24 = false)
    (hE : ∀ w : World, (Op.equalIn 10000 24 (.agg #[.int .u64 a0, .int .u64 a1, .int .u64 a2, .int .u64 a3]) (.agg #[.int .u64 b0, .int .u64 b1, .int .u64 b2, .int .u64 b3])).run Try.prog w = .ok true w) :
    Calls Try.prog 38 #[.agg #[.int .u64 a0, .int .u64 a1, .int .u64 a2, .int .u64 a3], .agg #[.int .u64 b0, .int .u64 b1, .int .u64 b2, .int .u64 b3]] w fun e w' => e = .returned (.int .i64 0) ∧ Below w.heap.size w w' := by
  go_enter Try.func38, Try.ntmps38
  go_wp2
  go_ret
  refine ⟨rfl, ?_⟩
  repeat (first | exact Below.refl _ _ | refine Below.drew ?_ | refine below_N ?_ _ | refine Below.alloc ?_ (by simp; try omega) _ | refine Below.setCell ?_ (by simp; try omega) _)

set_option maxHeartbeats 1000000 in
theorem cmp_walk3 (a0 a1 a2 a3 b0 b1 b2 b3 v : Int) (w : World) (hg : Try.prog.eqGuardType Try.prog.depth 24 = false)
    (hE : ∀ w : World, (Op.equalIn 10000 24 (.agg #[.int .u64 a0, .int .u64 a1, .int .u64 a2, .int .u64 a3]) (.agg #[.int .u64 b0, .int .u64 b1, .int .u64 b2, .int .u64 b3])).run Try.prog w = .ok false w)
    (h3 : (a3 == b3) = false)
    (H : Hid (∀ w : World, Calls Try.prog 51 #[.int .u64 a3, .int .u64 b3] w fun e w' => e = .returned (.int .i64 v) ∧ w = w')) :
    Calls Try.prog 38 #[.agg #[.int .u64 a0, .int .u64 a1, .int .u64 a2, .int .u64 a3], .agg #[.int .u64 b0, .int .u64 b1, .int .u64 b2, .int .u64 b3]] w fun e w' => e = .returned (.int .i64 v) ∧ Below w.heap.size w w' := by
  go_enter Try.func38, Try.ntmps38
  go_wp2
  refine wp_loop_rounds 5 ?_
  rw [rounds_succ]
  go_wp2
  go_quiet (fail)
  go_wp2
  go_quiet ((go_at_call 51; refine (H.out _).mono ?_; rintro e w2 ⟨rfl, rfl⟩; exact ⟨rfl, _, rfl⟩))
  go_wp2
  go_ret
  refine ⟨rfl, ?_⟩
  repeat (first | exact Below.refl _ _ | refine Below.drew ?_ | refine below_N ?_ _ | refine Below.alloc ?_ (by simp; try omega) _ | refine Below.setCell ?_ (by simp; try omega) _)

set_option maxHeartbeats 1000000 in
theorem cmp_walk2 (a0 a1 a2 a3 b0 b1 b2 b3 v : Int) (w : World) (hg : Try.prog.eqGuardType Try.prog.depth 24 = false)
    (hE : ∀ w : World, (Op.equalIn 10000 24 (.agg #[.int .u64 a0, .int .u64 a1, .int .u64 a2, .int .u64 a3]) (.agg #[.int .u64 b0, .int .u64 b1, .int .u64 b2, .int .u64 b3])).run Try.prog w = .ok false w)
    (h3 : (a3 == b3) = true) (h2 : (a2 == b2) = false)
    (H : Hid (∀ w : World, Calls Try.prog 51 #[.int .u64 a2, .int .u64 b2] w fun e w' => e = .returned (.int .i64 v) ∧ w = w')) :
    Calls Try.prog 38 #[.agg #[.int .u64 a0, .int .u64 a1, .int .u64 a2, .int .u64 a3], .agg #[.int .u64 b0, .int .u64 b1, .int .u64 b2, .int .u64 b3]] w fun e w' => e = .returned (.int .i64 v) ∧ Below w.heap.size w w' := by
  go_enter Try.func38, Try.ntmps38
  go_wp2
  refine wp_loop_rounds 5 ?_
  rw [rounds_succ]
  go_wp2
  go_quiet (fail)
  go_wp2
  rw [rounds_succ]
  go_wp2
  go_quiet (fail)
  go_wp2
  go_quiet ((go_at_call 51; refine (H.out _).mono ?_; rintro e w2 ⟨rfl, rfl⟩; exact ⟨rfl, _, rfl⟩))
  go_wp2
  go_ret
  refine ⟨rfl, ?_⟩
  repeat (first | exact Below.refl _ _ | refine Below.drew ?_ | refine below_N ?_ _ | refine Below.alloc ?_ (by simp; try omega) _ | refine Below.setCell ?_ (by simp; try omega) _)

set_option maxHeartbeats 1000000 in
theorem cmp_walk1 (a0 a1 a2 a3 b0 b1 b2 b3 v : Int) (w : World) (hg : Try.prog.eqGuardType Try.prog.depth 24 = false)
    (hE : ∀ w : World, (Op.equalIn 10000 24 (.agg #[.int .u64 a0, .int .u64 a1, .int .u64 a2, .int .u64 a3]) (.agg #[.int .u64 b0, .int .u64 b1, .int .u64 b2, .int .u64 b3])).run Try.prog w = .ok false w)
    (h3 : (a3 == b3) = true) (h2 : (a2 == b2) = true) (h1 : (a1 == b1) = false)
    (H : Hid (∀ w : World, Calls Try.prog 51 #[.int .u64 a1, .int .u64 b1] w fun e w' => e = .returned (.int .i64 v) ∧ w = w')) :
    Calls Try.prog 38 #[.agg #[.int .u64 a0, .int .u64 a1, .int .u64 a2, .int .u64 a3], .agg #[.int .u64 b0, .int .u64 b1, .int .u64 b2, .int .u64 b3]] w fun e w' => e = .returned (.int .i64 v) ∧ Below w.heap.size w w' := by
  go_enter Try.func38, Try.ntmps38
  go_wp2
  refine wp_loop_rounds 5 ?_
  rw [rounds_succ]
  go_wp2
  go_quiet (fail)
  go_wp2
  rw [rounds_succ]
  go_wp2
  go_quiet (fail)
  go_wp2
  rw [rounds_succ]
  go_wp2
  go_quiet (fail)
  go_wp2
  go_quiet ((go_at_call 51; refine (H.out _).mono ?_; rintro e w2 ⟨rfl, rfl⟩; exact ⟨rfl, _, rfl⟩))
  go_wp2
  go_ret
  refine ⟨rfl, ?_⟩
  repeat (first | exact Below.refl _ _ | refine Below.drew ?_ | refine below_N ?_ _ | refine Below.alloc ?_ (by simp; try omega) _ | refine Below.setCell ?_ (by simp; try omega) _)

set_option maxHeartbeats 1000000 in
theorem cmp_walk0 (a0 a1 a2 a3 b0 b1 b2 b3 v : Int) (w : World) (hg : Try.prog.eqGuardType Try.prog.depth 24 = false)
    (hE : ∀ w : World, (Op.equalIn 10000 24 (.agg #[.int .u64 a0, .int .u64 a1, .int .u64 a2, .int .u64 a3]) (.agg #[.int .u64 b0, .int .u64 b1, .int .u64 b2, .int .u64 b3])).run Try.prog w = .ok false w)
    (h3 : (a3 == b3) = true) (h2 : (a2 == b2) = true) (h1 : (a1 == b1) = true)
    (H : Hid (∀ w : World, Calls Try.prog 51 #[.int .u64 a0, .int .u64 b0] w fun e w' => e = .returned (.int .i64 v) ∧ w = w')) :
    Calls Try.prog 38 #[.agg #[.int .u64 a0, .int .u64 a1, .int .u64 a2, .int .u64 a3], .agg #[.int .u64 b0, .int .u64 b1, .int .u64 b2, .int .u64 b3]] w fun e w' => e = .returned (.int .i64 v) ∧ Below w.heap.size w w' := by
  go_enter Try.func38, Try.ntmps38
  go_wp2
  refine wp_loop_rounds 5 ?_
  rw [rounds_succ]
  go_wp2
  go_quiet (fail)
  go_wp2
  rw [rounds_succ]
  go_wp2
  go_quiet (fail)
  go_wp2
  rw [rounds_succ]
  go_wp2
  go_quiet (fail)
  go_wp2
  rw [rounds_succ]
  go_wp2
  go_quiet (fail)
  go_wp2
  go_quiet ((go_at_call 51; refine (H.out _).mono ?_; rintro e w2 ⟨rfl, rfl⟩; exact ⟨rfl, _, rfl⟩))
  go_wp2
  go_ret
  refine ⟨rfl, ?_⟩
  repeat (first | exact Below.refl _ _ | refine Below.drew ?_ | refine below_N ?_ _ | refine Below.alloc ?_ (by simp; try omega) _ | refine Below.setCell ?_ (by simp; try omega) _)

theorem Try.guardW : Try.prog.eqGuardType Try.prog.depth 24 = false := by kernel_rfl
/-- -1, 0, 1. -/
def cmpN (m n : Nat) : Int := if m < n then -1 else if n < m then 1 else 0
theorem cmpI_nat (m n : Nat) : cmpI (m : Int) (n : Int) = cmpN m n := by
  unfold cmpI cmpN
  simp only [Int.ofNat_lt]
theorem cmp_top {a0 a1 a2 a3 b0 b1 b2 b3 : Nat} (A0 : a0 < B) (A1 : a1 < B) (A2 : a2 < B) (C0 : b0 < B) (C1 : b1 < B) (C2 : b2 < B) :
    (a3 ≠ b3 → cmpN (num a0 a1 a2 a3) (num b0 b1 b2 b3) = cmpN a3 b3) ∧ (a3 = b3 → a2 ≠ b2 → cmpN (num a0 a1 a2 a3) (num b0 b1 b2 b3) = cmpN a2 b2) ∧
    (a3 = b3 → a2 = b2 → a1 ≠ b1 → cmpN (num a0 a1 a2 a3) (num b0 b1 b2 b3) = cmpN a1 b1) ∧ (a3 = b3 → a2 = b2 → a1 = b1 → cmpN (num a0 a1 a2 a3) (num b0 b1 b2 b3) = cmpN a0 b0) := by
  unfold cmpN num
  simp only [B] at *
  refine ⟨fun h => ?_, fun h h' => ?_, fun h h' h'' => ?_, fun h h' h'' => ?_⟩
  all_goals (repeat' split) <;> omega
theorem compare_wd (m n : Nat) (w : World) :
    Calls Try.prog 38 #[wd m, wd n] w fun e w' => e = .returned (.int .i64 (cmpN (m % M) (n % M))) ∧ Below w.heap.size w w' := by
  obtain ⟨A0, A1, A2, A3⟩ := l_lt m
  obtain ⟨C0, C1, C2, C3⟩ := l_lt n
  have hq := fun w => equal_wa m n w
  by_cases he : m % M = n % M
  · have hv : cmpN (m % M) (n % M) = 0 := by rw [he]; unfold cmpN; simp
    rw [hv]
    rw [decide_eq_true he] at hq
    exact cmp_walkE _ _ _ _ _ _ _ _ w Try.guardW hq
  · rw [decide_eq_false he] at hq
    obtain ⟨t3, t2, t1, t0⟩ := cmp_top (a3 := l3 m) (b3 := l3 n) A0 A1 A2 C0 C1 C2
    rw [num_parts, num_parts] at t3 t2 t1 t0
    by_cases h3 : l3 m = l3 n
    · by_cases h2 : l2 m = l2 n
      · by_cases h1 : l1 m = l1 n
        · rw [t0 h3 h2 h1, ← cmpI_nat]
          exact cmp_walk0 _ _ _ _ _ _ _ _ _ w Try.guardW hq (by simp [h3]) (by simp [h2]) (by simp [h1]) (fun w => cmp64_walk _ _ w)
        · rw [t1 h3 h2 h1, ← cmpI_nat]
          exact cmp_walk1 _ _ _ _ _ _ _ _ _ w Try.guardW hq (by simp [h3]) (by simp [h2]) (beq_eq_false_iff_ne.2 (by omega)) (fun w => cmp64_walk _ _ w)
      · rw [t2 h3 h2, ← cmpI_nat]
        exact cmp_walk2 _ _ _ _ _ _ _ _ _ w Try.guardW hq (by simp [h3]) (beq_eq_false_iff_ne.2 (by omega)) (fun w => cmp64_walk _ _ w)
    · rw [t3 h3, ← cmpI_nat]
      exact cmp_walk3 _ _ _ _ _ _ _ _ _ w Try.guardW hq (beq_eq_false_iff_ne.2 (by omega)) (fun w => cmp64_walk _ _ w)

theorem len64_nat (x : Nat) (w : World) (h : x < B) : Calls Try.prog 57 #[.int .u64 (x : Int)] w fun e w' => e = .returned (.int .i64 ((Lib.bitLen x : Nat) : Int)) ∧ w = w' :=
  (Try.bits_Len64 x w (by omega) (by simp only [B] at h; omega)).mono fun e w' ⟨h1, h2⟩ => ⟨by rw [h1, Int.toNat_natCast], h2.symm⟩

set_option maxHeartbeats 1000000 in
theorem len_walk3 (a0 a1 a2 a3 v : Int) (w : World) (h3 : (a3 != 0) = true) (hv0 : 0 ≤ v) (hv1 : v ≤ 64)
    (H : Hid (∀ w : World, Calls Try.prog 57 #[.int .u64 a3] w fun e w' => e = .returned (.int .i64 v) ∧ w = w')) :
    Calls Try.prog 53 #[.agg #[.int .u64 a0, .int .u64 a1, .int .u64 a2, .int .u64 a3]] w fun e w' => e = .returned (.int .i64 (192 + v)) ∧ Below w.heap.size w w' := by
  go_enter Try.func53, Try.ntmps53
  go_wp2
  refine wp_loop_rounds 5 ?_
  rw [rounds_succ]
  go_wp2_with (go_at_call 57; refine (H.out _).mono ?_; rintro e w' ⟨rfl, rfl⟩)
  go_ret
  refine ⟨rfl, ?_⟩
  repeat (first | exact Below.refl _ _ | refine Below.drew ?_ | refine below_N ?_ _ | refine Below.alloc ?_ (by simp; try omega) _ | refine Below.setCell ?_ (by simp; try omega) _)

set_option maxHeartbeats 1000000 in
theorem len_walk2 (a0 a1 a2 a3 v : Int) (w : World) (h3 : (a3 != 0) = false) (h2 : (a2 != 0) = true) (hv0 : 0 ≤ v) (hv1 : v ≤ 64)
    (H : Hid (∀ w : World, Calls Try.prog 57 #[.int .u64 a2] w fun e w' => e = .returned (.int .i64 v) ∧ w = w')) :
    Calls Try.prog 53 #[.agg #[.int .u64 a0, .int .u64 a1, .int .u64 a2, .int .u64 a3]] w fun e w' => e = .returned (.int .i64 (128 + v)) ∧ Below w.heap.size w w' := by
  go_enter Try.func53, Try.ntmps53
  go_wp2
  refine wp_loop_rounds 5 ?_
  rw [rounds_succ]
  go_wp2
  rw [rounds_succ]
  go_wp2_with (go_at_call 57; refine (H.out _).mono ?_; rintro e w' ⟨rfl, rfl⟩)
  go_ret
  refine ⟨rfl, ?_⟩
  repeat (first | exact Below.refl _ _ | refine Below.drew ?_ | refine below_N ?_ _ | refine Below.alloc ?_ (by simp; try omega) _ | refine Below.setCell ?_ (by simp; try omega) _)

set_option maxHeartbeats 1000000 in
theorem len_walk1 (a0 a1 a2 a3 v : Int) (w : World) (h3 : (a3 != 0) = false) (h2 : (a2 != 0) = false) (h1 : (a1 != 0) = true) (hv0 : 0 ≤ v) (hv1 : v ≤ 64)
    (H : Hid (∀ w : World, Calls Try.prog 57 #[.int .u64 a1] w fun e w' => e = .returned (.int .i64 v) ∧ w = w')) :
    Calls Try.prog 53 #[.agg #[.int .u64 a0, .int .u64 a1, .int .u64 a2, .int .u64 a3]] w fun e w' => e = .returned (.int .i64 (64 + v)) ∧ Below w.heap.size w w' := by
  go_enter Try.func53, Try.ntmps53
  go_wp2
  refine wp_loop_rounds 5 ?_
  rw [rounds_succ]
  go_wp2
  rw [rounds_succ]
  go_wp2
  rw [rounds_succ]
  go_wp2_with (go_at_call 57; refine (H.out _).mono ?_; rintro e w' ⟨rfl, rfl⟩)
  go_ret
  refine ⟨rfl, ?_⟩
  repeat (first | exact Below.refl _ _ | refine Below.drew ?_ | refine below_N ?_ _ | refine Below.alloc ?_ (by simp; try omega) _ | refine Below.setCell ?_ (by simp; try omega) _)

set_option maxHeartbeats 1000000 in
theorem len_walk0 (a0 a1 a2 a3 v : Int) (w : World) (h3 : (a3 != 0) = false) (h2 : (a2 != 0) = false) (h1 : (a1 != 0) = false) (h0 : (a0 != 0) = true) (hv0 : 0 ≤ v) (hv1 : v ≤ 64)
    (H : Hid (∀ w : World, Calls Try.prog 57 #[.int .u64 a0] w fun e w' => e = .returned (.int .i64 v) ∧ w = w')) :
    Calls Try.prog 53 #[.agg #[.int .u64 a0, .int .u64 a1, .int .u64 a2, .int .u64 a3]] w fun e w' => e = .returned (.int .i64 (0 + v)) ∧ Below w.heap.size w w' := by
  go_enter Try.func53, Try.ntmps53
  go_wp2
  refine wp_loop_rounds 5 ?_
  rw [rounds_succ]
  go_wp2
  rw [rounds_succ]
  go_wp2
  rw [rounds_succ]
  go_wp2
  rw [rounds_succ]
  go_wp2_with (go_at_call 57; refine (H.out _).mono ?_; rintro e w' ⟨rfl, rfl⟩)
  go_ret
  refine ⟨by simp, ?_⟩
  repeat (first | exact Below.refl _ _ | refine Below.drew ?_ | refine below_N ?_ _ | refine Below.alloc ?_ (by simp; try omega) _ | refine Below.setCell ?_ (by simp; try omega) _)

set_option maxHeartbeats 1000000 in
theorem len_walkZ (a0 a1 a2 a3 : Int) (w : World) (h3 : (a3 != 0) = false) (h2 : (a2 != 0) = false) (h1 : (a1 != 0) = false) (h0 : (a0 != 0) = false) :
    Calls Try.prog 53 #[.agg #[.int .u64 a0, .int .u64 a1, .int .u64 a2, .int .u64 a3]] w fun e w' => e = .returned (.int .i64 0) ∧ Below w.heap.size w w' := by
  go_enter Try.func53, Try.ntmps53
  go_wp2
  refine wp_loop_rounds 5 ?_
  rw [rounds_succ]
  go_wp2
  rw [rounds_succ]
  go_wp2
  rw [rounds_succ]
  go_wp2
  rw [rounds_succ]
  go_wp2
  rw [rounds_succ]
  go_wp2
  go_ret
  refine ⟨rfl, ?_⟩
  repeat (first | exact Below.refl _ _ | refine Below.drew ?_ | refine below_N ?_ _ | refine Below.alloc ?_ (by simp; try omega) _ | refine Below.setCell ?_ (by simp; try omega) _)
end Go.Proofs.Ytlobchkbkdjccaa
